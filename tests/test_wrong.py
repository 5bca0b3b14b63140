"""Wrong arguments: each one's error, the leftmost one's first, nothing changed (point 1 and the others)."""

import copy
import unittest

from countdoors import (
    allnests, allrows, buying, costs, desk, errors, gaps, hands, keepers, leaving, listing, missing, mixtures, nests,
    nesttext, openers, orders, parallel, renaming, shutting, sides, states, sums, swapping, telling, times, weighted,
    wishing, words,
)

from tests import wrong

NEST = wrong.NEST
SOME = ((0,), (0,), (0, 1))
ORDER = (0, 2, 1)
# For each function the kinds of its arguments: a right value and wrong ones.
NEST_ARG = (NEST, wrong.NESTS)
NUMBERS_ARG = (SOME, wrong.NUMBERS)
ORDER_ARG = (ORDER, wrong.ORDERS)
DOOR_ARG = (2, wrong.DOORS)
STATE_ARG = ((1,), wrong.STATES)
CLOSED_ARG = (2, wrong.CLOSED)
TOLD_ARG = (((0, 1, 2), (0, 2, 1)), wrong.TOLD)
COUNT_ARG = (4, wrong.COUNTS)
FLAG_ARG = (True, wrong.FLAGS)
ROW_ARG = ((9, 2, 5, 1, 8, 3, 7), wrong.ROWS)
N_ARG = (9, wrong.MANY)
VALUE_ARG = (None, [])
LEFTS_ARG = (((0,), (0, 1), (0, 1, 2)), wrong.SIDES)
RIGHTS_ARG = (((0, 1, 2), (0,), (0,)), wrong.RIGHTS)
PRICES_ARG = ((0, 1000, 3), wrong.PRICES)
RANKS_ARG = ((0, 0, 2), wrong.RANKS)
WORDS_ARG = (((), (), (1, 0), (2, 2, 2)), wrong.WORDS)
PAIR_ARG = ((NEST, SOME), wrong.PAIRS)
TABLE_ARG = (((1,), (2,), (4, 1000, 0)), wrong.TABLES)
GOALS_ARG = (((1, 1), (3, 2), (1, 2)), wrong.GOALS)
WEIGHTS_ARG = ((1, 100, 7), wrong.WEIGHTS)
HOUSE = [NEST_ARG, NUMBERS_ARG]
CALLS = [
    (nests.inside, [NEST_ARG, DOOR_ARG]),
    (nests.around, [NEST_ARG, DOOR_ARG]),
    (nests.at_once, [NEST_ARG, (2, wrong.INNER)]),
    (nests.sizes, [NEST_ARG]),
    (nests.depths, [NEST_ARG]),
    (nests.mixings, [NEST_ARG]),
    (nests.free_numbers, [NEST_ARG]),
    (nests.last_numbers, [NEST_ARG]),
    (nests.first_numbers, [NEST_ARG]),
    (nests.kept_numbers, [NEST_ARG, NUMBERS_ARG]),
    (nesttext.write_nest, [NEST_ARG, NUMBERS_ARG]),
    (nesttext.read_nest, [("2:0; 2:0; -:0 1", wrong.TEXTS)]),
    (orders.ranks, [NEST_ARG, ORDER_ARG]),
    (orders.order_inside, [NEST_ARG, ORDER_ARG, DOOR_ARG]),
    (orders.allows, [NEST_ARG, NUMBERS_ARG, ORDER_ARG]),
    (orders.order_count, [NEST_ARG, NUMBERS_ARG]),
    (orders.with_ranks, [NEST_ARG, RANKS_ARG]),
    (orders.put_in, [NEST_ARG, ORDER_ARG, DOOR_ARG, (1, wrong.RANK_OF_2)]),
    (listing.order_number, [*HOUSE, ORDER_ARG]),
    (listing.order_at, [*HOUSE, (3, wrong.INDEXES)]),
    (listing.next_order, [*HOUSE, ORDER_ARG]),
    (listing.all_orders, HOUSE),
    (listing.widened, [*HOUSE, DOOR_ARG, (8, wrong.NUMBER)]),
    (listing.closed_in, [*HOUSE, ((), wrong.NEW_NUMBERS)]),
    (states.open_inside, [NEST_ARG, STATE_ARG]),
    (states.ready, [*HOUSE, STATE_ARG]),
    (states.ways_on, [*HOUSE, STATE_ARG]),
    (states.lost_door, [*HOUSE, STATE_ARG]),
    (states.shows_lost, [*HOUSE, STATE_ARG, VALUE_ARG]),
    (states.next_chances, [*HOUSE, STATE_ARG]),
    (states.safe_next, [*HOUSE, STATE_ARG]),
    (states.ways_between, [*HOUSE, STATE_ARG, STATE_ARG]),
    (states.met_count, HOUSE),
    (states.last_states, HOUSE),
    (states.is_safe, HOUSE),
    (states.first_lost, HOUSE),
    (times.time_chances, [*HOUSE, STATE_ARG, CLOSED_ARG]),
    (times.mean_times, [*HOUSE, STATE_ARG]),
    (times.ahead_chance, [*HOUSE, STATE_ARG, CLOSED_ARG, (0, wrong.FURTHER)]),
    (sums.sum_counts, HOUSE),
    (sums.rest_counts, [*HOUSE, (3, wrong.MANY)]),
    (sums.mean_sum, HOUSE),
    (sums.with_sum, [*HOUSE, (36, wrong.TOTALS)]),
    (telling.least_numbers, [NEST_ARG, TOLD_ARG]),
    (telling.told_count, [NEST_ARG, TOLD_ARG]),
    (telling.third_order, [NEST_ARG, TOLD_ARG]),
    (telling.shows_third, [NEST_ARG, TOLD_ARG, VALUE_ARG]),
    (telling.parting, [NEST_ARG, TOLD_ARG, TOLD_ARG]),
    (telling.parting_doors, [NEST_ARG, TOLD_ARG, TOLD_ARG]),
    (wishing.numbers_with, [NEST_ARG, COUNT_ARG]),
    (wishing.shows_numbers_with, [NEST_ARG, COUNT_ARG, VALUE_ARG]),
    (wishing.covering, HOUSE),
    (wishing.shows_covering, [*HOUSE, VALUE_ARG]),
    (hands.last_hand, [*HOUSE, STATE_ARG]),
    (hands.winning_doors, [*HOUSE, STATE_ARG]),
    (hands.worth, [*HOUSE, STATE_ARG]),
    (keepers.kept_open, [*HOUSE, STATE_ARG, FLAG_ARG]),
    (keepers.keeper_plan, [*HOUSE, FLAG_ARG]),
    (keepers.shows_plan, [*HOUSE, FLAG_ARG, VALUE_ARG]),
    (keepers.end_value, [*HOUSE, STATE_ARG, FLAG_ARG]),
    (leaving.stays, [ROW_ARG]),
    (leaving.leavers, [ROW_ARG]),
    (leaving.leaving_nest, [ROW_ARG]),
    (leaving.leave_count, [ROW_ARG]),
    (leaving.is_leaving, [ROW_ARG, ((3, 1, 2, 5), wrong.LEAVINGS)]),
    (leaving.payments, [ROW_ARG]),
    (leaving.rounds, [ROW_ARG]),
    (leaving.ring_count, [ROW_ARG]),
    (leaving.ring_payments, [ROW_ARG]),
    (allrows.rows_by_stays, [N_ARG]),
    (allrows.rows_by_rounds, [N_ARG]),
    (allrows.orders_in_all, [N_ARG]),
    (allrows.mean_paid, [N_ARG]),
    (sides.side_count, [LEFTS_ARG, RIGHTS_ARG]),
    (sides.side_order, [LEFTS_ARG, RIGHTS_ARG]),
    (sides.side_ready, [LEFTS_ARG, RIGHTS_ARG, STATE_ARG]),
    (sides.side_numbers, [((2, 0, 1), wrong.ROW_ORDERS)]),
    (sides.turned_pairs, [((2, 0, 1), wrong.ROW_ORDERS)]),
    (sides.side_ends, [LEFTS_ARG, RIGHTS_ARG]),
    (sides.wide_sides, [LEFTS_ARG, RIGHTS_ARG, TOLD_ARG]),
    (sides.rows_as_nests, [LEFTS_ARG]),
    (costs.least_cost, [*HOUSE, PRICES_ARG]),
    (costs.mean_cost, [*HOUSE, PRICES_ARG]),
    (costs.cost_paper, [*HOUSE, PRICES_ARG]),
    (costs.shows_cost_paper, [*HOUSE, PRICES_ARG, VALUE_ARG]),
    (openers.all_chance, HOUSE),
    (openers.end_chances, HOUSE),
    (openers.mean_open, HOUSE),
    (openers.order_chance, [*HOUSE, ORDER_ARG]),
    (shutting.steps_between, [*HOUSE, STATE_ARG, STATE_ARG]),
    (shutting.way_between, [*HOUSE, STATE_ARG, STATE_ARG]),
    (shutting.joined_states, [*HOUSE, STATE_ARG]),
    (shutting.farthest_states, [*HOUSE, STATE_ARG]),
    (shutting.parts_of_states, HOUSE),
    (desk.Desk, HOUSE),
    (words.words_of, [NEST_ARG, ORDER_ARG]),
    (words.order_of, [NEST_ARG, RANKS_ARG, WORDS_ARG]),
    (swapping.beside, [*HOUSE, ORDER_ARG]),
    (swapping.swaps, [*HOUSE, ORDER_ARG, ORDER_ARG]),
    (swapping.joined_parts, HOUSE),
    (swapping.turned_between, [NEST_ARG, ORDER_ARG, ORDER_ARG]),
    (swapping.to_allowed, [*HOUSE, ORDER_ARG]),
    (renaming.renamings, HOUSE),
    (renaming.orders_alike, HOUSE),
    (renaming.least_form, HOUSE),
    (renaming.are_alike, [PAIR_ARG, PAIR_ARG]),
    (renaming.alike_doors, HOUSE),
    (parallel.least_rounds, [*HOUSE, STATE_ARG]),
    (parallel.rounds_plan, [*HOUSE, STATE_ARG]),
    (parallel.shows_rounds, [*HOUSE, STATE_ARG, VALUE_ARG]),
    (parallel.greedy_state, [*HOUSE, STATE_ARG]),
    (buying.bought, [NEST_ARG, TABLE_ARG, COUNT_ARG]),
    (buying.most_orders, [NEST_ARG, TABLE_ARG, (10000, wrong.PAID)]),
    (mixtures.mixture, [*HOUSE, GOALS_ARG]),
    (mixtures.goal_paper, [*HOUSE, GOALS_ARG]),
    (mixtures.shows_mixture, [*HOUSE, GOALS_ARG, VALUE_ARG]),
    (mixtures.shows_goal_paper, [*HOUSE, GOALS_ARG, VALUE_ARG]),
    (missing.missing, [*HOUSE, ORDER_ARG]),
    (missing.orders_by_missing, HOUSE),
    (missing.mended, [*HOUSE, ORDER_ARG]),
    (missing.made_safe, HOUSE),
    (missing.least_missing, HOUSE),
    (weighted.weighted_ends, [*HOUSE, WEIGHTS_ARG]),
    (weighted.weighted_first, [*HOUSE, WEIGHTS_ARG, DOOR_ARG, (0, wrong.OTHER_THAN_2)]),
    (gaps.gap_chances, [*HOUSE, DOOR_ARG, (0, wrong.OTHER_THAN_2)]),
    (gaps.mean_gap, HOUSE),
    (allnests.nest_count, [N_ARG]),
    (allnests.nests_by_rooms, [N_ARG]),
    (allnests.nests_by_depth, [N_ARG]),
    (allnests.mixings_in_all, [N_ARG]),
]


class Wrong(unittest.TestCase):
    def expect(self, function, values, name, fields):
        before = copy.deepcopy(values)
        with self.subTest(function=function.__name__, values=values):
            with self.assertRaises(errors.DoorError) as caught:
                function(*values)
            self.assertEqual(type(caught.exception).__name__, name)
            self.assertEqual(vars(caught.exception), fields)
            self.assertEqual(list(map(type, vars(caught.exception).values())), list(map(type, fields.values())))
            self.assertEqual(values, before)

    def test_right_ones_raise_nothing(self):
        for function, arguments in CALLS:
            with self.subTest(function.__name__):
                function(*[right for right, _ in arguments])

    def test_each_argument(self):
        for function, arguments in CALLS:
            for at, (_, wrongs) in enumerate(arguments):
                for value, name, fields in wrongs:
                    values = [right for right, _ in arguments]
                    values[at] = value
                    self.expect(function, values, name, fields)

    def test_leftmost_first(self):
        for function, arguments in CALLS:
            for at, (_, wrongs) in enumerate(arguments[:-1]):
                for turn, (value, name, fields) in enumerate(wrongs):
                    # All arguments from this one on are wrong, with other wrong values each time.
                    values = [right for right, _ in arguments]
                    values[at] = value
                    for further in range(at + 1, len(arguments)):
                        others = arguments[further][1] or [[5]]
                        values[further] = others[turn % len(others)][0]
                    self.expect(function, values, name, fields)

    def test_leftmost_of_two(self):
        for function, arguments in CALLS:
            for at in range(len(arguments)):
                for further in range(at + 1, len(arguments)):
                    for value, name, fields in arguments[at][1][:1]:
                        values = [right for right, _ in arguments]
                        values[at] = value
                        values[further] = (arguments[further][1] or [[5]])[0][0]
                        self.expect(function, values, name, fields)

    def test_too_many_behind_all(self):
        nine = (None,) * 9
        zeros = ((0,),) * 9
        house = [(nine, wrong.NESTS), (zeros, wrong.indexed("BadNumbers", [(None, None), (zeros[1:], None), (zeros[:8] + ((9,),), 8)]))]
        order = (tuple(range(9)), wrong.ORDERS)
        goals = (((4, 1),) * 9, wrong.GOALS)
        too_many = [
            (listing.all_orders, house, 2000),
            (listing.closed_in, [*house, ((0,), wrong.NEW_NUMBERS)], 9),
            (swapping.swaps, [*house, order, order], 2000),
            (swapping.joined_parts, house, 2000),
            (swapping.to_allowed, [*house, order], 2000),
            (mixtures.mixture, [*house, goals], 120),
            (mixtures.goal_paper, [*house, goals], 120),
            (mixtures.shows_mixture, [*house, goals, (None, [])], 120),
            (mixtures.shows_goal_paper, [*house, goals, (None, [])], 120),
            (gaps.gap_chances, [*house, (0, wrong.DOORS_OF_9), (1, wrong.DOORS_OF_9 + wrong.plain("BadDoor", [0]))], 7),
            (gaps.mean_gap, house, 7),
        ]
        for function, arguments, most in too_many:
            self.expect(function, [right for right, _ in arguments], "TooMany", {"most": most})
            for at, (_, wrongs) in enumerate(arguments):
                for value, name, fields in wrongs:
                    values = [right for right, _ in arguments]
                    values[at] = value
                    self.expect(function, values, name, fields)
            self.expect(function, [nine, zeros[:8] + ((9,),), *[(9,) for _ in arguments[2:]]], "BadNumbers", {"index": 8})


if __name__ == "__main__":
    unittest.main()
