"""The examples of the interface, as the document writes them."""

import doctest
import unittest
from pathlib import Path

from countdoors import errors

README = Path(__file__).resolve().parent.parent / "README.md"

EXAMPLES = '''
>>> from countdoors.nests import around, at_once, depths, free_numbers, inside, mixings, sizes
>>> nest = (2, 2, 4, 4, None)
>>> [inside(nest, 4), around(nest, 0), at_once(nest, 4), sizes(nest), depths(nest), mixings(nest), free_numbers(nest)[2]]
[(0, 1, 2, 3), (2, 4), (2, 3), (1, 1, 3, 1, 5), (2, 2, 1, 1, 0), 8, (0, 1, 2)]
>>> from countdoors.nests import sizes
>>> sizes((1, 1))
raises BadNest(index=1)
>>> from countdoors.nesttext import read_nest, write_nest
>>> [write_nest((1, None), ((0,), (0, 1))), read_nest("2:0;2 :0; - : 1")]
['1: 0; -: 0 1', ((2, 2, None), ((0,), (0,), (1,)))]
>>> from countdoors.nesttext import read_nest
>>> read_nest("-: 1 0")
raises InvalidText(place=5)
>>> from countdoors.orders import allows, order_count, order_inside, put_in, ranks, with_ranks
>>> nest, numbers = (2, 2, 4, 4, None), ((0,), (0,), (1,), (0,), (0, 4))
>>> [ranks(nest, (0, 2, 1, 4, 3)), order_inside(nest, (3, 0, 4, 2, 1), 2), with_ranks(nest, (0, 0, 2, 0, 4)), put_in(nest, (3, 0, 1, 2, 4), 4, 2), order_count(nest, numbers), allows(nest, numbers, (0, 2, 1, 3, 4))]
[(0, 0, 1, 0, 3), (0, 2, 1), (0, 1, 2, 3, 4), (3, 0, 4, 1, 2), 16, True]
>>> from countdoors.listing import all_orders, closed_in, next_order, order_at, order_number, widened
>>> chain, some = (1, 2, None), ((0,), (0, 1), (1,))
>>> [all_orders(chain, some), order_number(chain, some, (1, 2, 0)), order_at(chain, some, 0), next_order(chain, some, (0, 2, 1)), widened(chain, some, 2, 0)[2], closed_in((None,), ((0,),), (1,))]
[[(0, 2, 1), (1, 2, 0)], 1, (0, 2, 1), (1, 2, 0), (0, 1), ((1, None), ((0,), (1,)))]
>>> from countdoors.states import lost_door, next_chances, open_inside, ready, safe_next, ways_on
>>> nest, numbers = (2, 2, None), ((0,), (0,), (1,))
>>> [open_inside(nest, (0, 2)), ready(nest, numbers, (0,)), ways_on(nest, numbers, ()), lost_door(nest, numbers, (0, 1)), safe_next(nest, numbers, (0,)), next_chances(nest, numbers, ())]
[(0, 0, 1), (1, 2), 2, 2, (2,), ((1, 2), (1, 2), (0, 1))]
>>> from countdoors.states import first_lost, is_safe, last_states, met_count, ways_between
>>> nest, numbers = (2, 2, None), ((0,), (0,), (1,))
>>> [ways_between(nest, numbers, (), (0, 1)), met_count(nest, numbers), last_states(nest, numbers), is_safe(nest, numbers), first_lost(nest, numbers)]
[2, 7, ((0, 1), (0, 1, 2)), False, (2, (0, 1))]
>>> from countdoors.times import ahead_chance, mean_times, time_chances
>>> nest, numbers = (2, 2, None), ((0,), (0,), (0, 2))
>>> [time_chances(nest, numbers, (), 0), mean_times(nest, numbers, (0,)), ahead_chance(nest, numbers, (), 0, 2)]
[((1, 4), (1, 2), (1, 4)), (None, (1, 1), (2, 1)), (1, 2)]
>>> from countdoors.sums import mean_sum, rest_counts, sum_counts, with_sum
>>> chain, free = (1, 2, None), ((0,), (0, 1), (0, 1, 2))
>>> [sum_counts(chain, free), rest_counts(chain, free, 3), mean_sum(chain, free), with_sum(chain, free, 1)]
[(1, 2, 2, 1), (2, 2, 2), ((3, 2), (11, 12)), (1, 2, 0)]
>>> from countdoors.telling import least_numbers, parting, parting_doors, shows_third, told_count
>>> nest, told = (2, 2, None), ((0, 1, 2), (0, 2, 1))
>>> [least_numbers(nest, told), told_count(nest, told), shows_third(nest, told, (1, 0, 2)), parting(nest, told[:1], told[1:]), parting_doors(nest, told[:1], told[1:])]
[((0,), (0,), (1, 2)), 4, True, ((0,), (0,), (2,)), ((2,),)]
>>> from countdoors.wishing import covering, numbers_with, shows_covering, shows_numbers_with
>>> chain = (1, 2, None)
>>> [numbers_with((2, 2, None), 6), numbers_with(chain, 5), shows_numbers_with(chain, 4, ((0,), (0, 1), (0, 2))), len(covering(chain, ((0,), (0, 1), (0, 2)))), shows_covering(chain, ((0,), (0, 1), (0, 2)), ((0, 1, 2), (2, 1, 0)))]
[((0,), (0,), (0, 1, 2)), None, True, 2, True]
>>> from countdoors.hands import last_hand, winning_doors, worth
>>> nest, numbers = (2, 2, None), ((0,), (0,), (1,))
>>> [last_hand(nest, numbers, ()), winning_doors(nest, numbers, (0,)), worth(nest, numbers, (0,))]
[False, (1,), 2]
>>> from countdoors.keepers import end_value, keeper_plan, kept_open, shows_plan
>>> nest, numbers = (2, 2, None), ((0,), (0,), (1,))
>>> [kept_open(nest, numbers, (), True), kept_open(nest, numbers, (), False), keeper_plan(nest, numbers, False), end_value(nest, numbers, (), True), shows_plan(nest, numbers, True, None)]
[False, True, (((0,), 2), ((1,), 2)), 2, True]
>>> from countdoors.leaving import leave_count, leavers, leaving_nest, payments, ring_count, ring_payments, rounds, stays
>>> heights = (9, 2, 5, 1, 8, 3, 7)
>>> [stays(heights), leavers(heights), leaving_nest(heights), leave_count(heights), payments(heights), rounds(heights), ring_count((3, 1, 2)), ring_payments((3, 1, 2))]
[(0, 4, 6), (3, 1, 5, 2), (3, 3, None, None), 8, (None, 3, 3, 4, None, 4, None), (None, 1, 2, 1, None, 1, None), 1, (None, 1, 1)]
>>> from countdoors.leaving import stays
>>> stays((1, 1))
raises BadRow
>>> from countdoors.allrows import mean_paid, orders_in_all, rows_by_rounds, rows_by_stays
>>> [rows_by_stays(3), rows_by_rounds(3), orders_in_all(4), mean_paid(3)]
[(0, 2, 4), (4, 2, 0, 0), 24, (1, 3)]
>>> from countdoors.sides import rows_as_nests, side_count, side_ends, side_numbers, side_order, side_ready, turned_pairs
>>> lefts, rights = ((0,), (0, 1), (0, 1, 2)), ((0, 1, 2), (0,), (0,))
>>> [side_count(lefts, rights), side_order(lefts, rights), side_ready(lefts, rights, (2,)), side_ends(lefts, rights), side_numbers((2, 0, 1)), turned_pairs((2, 0, 1)), rows_as_nests(((0,), (1,)))]
[3, (0, 1, 2), (0,), ((0, 1, 2), (0, 2)), (((0,), (1,), (0,)), ((1,), (1,), (0,))), 2, ((1, None), ((0,), (1,)))]
>>> from countdoors.costs import least_cost, mean_cost, shows_cost_paper
>>> nest, numbers = (2, 2, None), ((0,), (0,), (1,))
>>> paper = (((), 14), ((0,), 9), ((0, 1, 2), 0), ((0, 2), 3), ((1,), 21), ((1, 2), 15))
>>> [least_cost(nest, numbers, (5, 1, 3)), mean_cost(nest, numbers, (5, 1, 3)), shows_cost_paper(nest, numbers, (5, 1, 3), paper)]
[(14, (0, 2, 1)), (18, 1), True]
>>> from countdoors.openers import all_chance, end_chances, mean_open, order_chance
>>> nest, numbers = (2, 2, None), ((0,), (0,), (1,))
>>> [all_chance(nest, numbers), end_chances(nest, numbers), mean_open(nest, numbers), order_chance(nest, numbers, (0, 2, 1))]
[(1, 2), (((0, 1), (1, 2)), ((0, 1, 2), (1, 2))), (5, 2), (1, 4)]
>>> from countdoors.shutting import farthest_states, joined_states, parts_of_states, steps_between, way_between
>>> nest, numbers = (2, 2, None), ((0,), (0,), (1,))
>>> [steps_between(nest, numbers, (), (0, 1, 2)), way_between(nest, numbers, (), (2,)), joined_states(nest, numbers, (1,)), farthest_states(nest, numbers, ()), parts_of_states(nest, ((0,), (0,), (7,)))]
[3, (0, 2, 0), 8, (3, ((0, 1, 2), (2,))), (4, 4)]
>>> from countdoors.desk import Desk
>>> desk = Desk((2, 2, None), ((0,), (0,), (1,)))
>>> [desk.run("ways"), desk.run("open 0"), desk.run("ready"), desk.run("open 1"), desk.run("lost"), desk.run("add 2 2"), desk.run("ways"), desk.state, desk.steps, desk.undo(), desk.numbers[2]]
['2', None, '1 2', None, '2', None, '1', (0, 1), ('open 0', 'open 1', 'add 2 2'), None, (1,)]
>>> from countdoors.words import order_of, words_of
>>> nest = (2, 2, None)
>>> [words_of(nest, (1, 2, 0)), order_of(nest, (0, 0, 2), ((), (), (1, 0), (2, 2, 2)))]
[((), (), (1, 0), (2, 2, 2)), (1, 0, 2)]
>>> from countdoors.swapping import beside, joined_parts, swaps, to_allowed, turned_between
>>> nest, numbers = (2, 2, None), ((0,), (0,), (1,))
>>> [beside(nest, numbers, (0, 1, 2)), swaps(nest, numbers, (0, 2, 1), (1, 2, 0)), joined_parts(nest, numbers), to_allowed(nest, numbers, (0, 1, 2)), turned_between(nest, (0, 2, 1), (1, 2, 0))]
[((0, 2, 1),), None, (1, 1), (1, (0, 2, 1)), 3]
>>> from countdoors.renaming import alike_doors, are_alike, least_form, orders_alike, renamings
>>> nest, numbers = (2, 2, None), ((0,), (0,), (1,))
>>> [renamings(nest, numbers), orders_alike(nest, numbers), alike_doors(nest, numbers), least_form((None, 2, None), ((0,),) * 3), are_alike((nest, numbers), (nest, ((0,), (0,), (2,))))]
[2, 1, ((0, 1), (2,)), ((1, None, None), ((0,), (0,), (0,))), False]
>>> from countdoors.parallel import greedy_state, least_rounds, shows_rounds
>>> nest, numbers = (2, 2, None), ((0,), (0,), (1,))
>>> [least_rounds(nest, numbers, ()), shows_rounds(nest, numbers, (), ((0,), (1, 2))), greedy_state(nest, numbers, ())]
[2, True, (0, 1)]
>>> from countdoors.buying import bought, most_orders
>>> nest, table = (2, 2, None), ((1,), (2,), (4, 3, 9))
>>> [bought(nest, table, 3), most_orders(nest, table, 6), bought(nest, table, 7)]
[(10, ((0,), (0,), (0, 1))), (2, ((0,), (0,), (1,))), None]
>>> from countdoors.mixtures import goal_paper, mixture, shows_goal_paper
>>> nest, numbers = (2, 2, None), ((0,), (0,), (1,))
>>> [mixture(nest, numbers, ((1, 1),) * 3), goal_paper(nest, numbers, ((1, 1),) * 3), shows_goal_paper(nest, numbers, ((0, 1),) * 3, ((0, 1), (0, 1), (1, 1)))]
[(((0, 2, 1), (1, 2)), ((1, 2, 0), (1, 2))), None, True]
>>> from countdoors.missing import least_missing, made_safe, mended, missing, orders_by_missing
>>> nest, numbers = (2, 2, None), ((0,), (0,), (1,))
>>> [missing(nest, numbers, (0, 1, 2)), orders_by_missing(nest, numbers), mended(nest, numbers, (0, 1, 2)), made_safe(nest, numbers), least_missing(nest, ((0,), (), (0,)))]
[((2, 2),), (2, 4, 0, 0), ((0,), (0,), (1, 2)), ((0,), (0,), (1, 2)), (1, (2, 0, 1))]
>>> from countdoors.weighted import weighted_ends, weighted_first
>>> nest, numbers = (2, 2, None), ((0,), (0,), (1,))
>>> [weighted_ends(nest, numbers, (1, 3, 1)), weighted_first(nest, numbers, (1, 3, 1), 2, 0)]
[(((0, 1), (9, 16)), ((0, 1, 2), (7, 16))), (3, 8)]
>>> from countdoors.gaps import gap_chances, mean_gap
>>> nest, numbers = (2, 2, None), ((0,), (0,), (1,))
>>> [gap_chances(nest, numbers, 0, 2), mean_gap(nest, numbers)]
[((-1, (1, 2)), (1, (1, 2))), (4, 3)]
>>> from countdoors.allnests import mixings_in_all, nest_count, nests_by_depth, nests_by_rooms
>>> [nest_count(3), nests_by_rooms(3), nests_by_depth(3), mixings_in_all(2)]
[6, (2, 3, 1), (1, 4, 1), 3]
'''


def told(error):
    """An error as the examples write it."""
    fields = ", ".join(f"{name}={value!r}" for name, value in vars(error).items())
    return f"raises {type(error).__name__}" + (f"({fields})" if fields else "")


def answer(code, names):
    try:
        return repr(eval(code, names))
    except errors.DoorError as error:
        return told(error)


class Examples(unittest.TestCase):
    def test_examples(self):
        names = {}
        code = ""
        answers = 0
        for line in EXAMPLES.strip().splitlines():
            if line.startswith(">>> "):
                code = line.removeprefix(">>> ")
                if code.startswith("from ") or " = " in code.split("(")[0]:
                    exec(code, names)
                continue
            with self.subTest(code):
                answers += 1
                self.assertEqual(answer(code, names), line)
        self.assertEqual(answers, EXAMPLES.count("\n") - EXAMPLES.count(">>> ") - 1)

    def test_readme(self):
        text = README.read_text(encoding="utf-8").replace("```", "")
        runner = doctest.DocTestRunner()
        runner.run(doctest.DocTestParser().get_doctest(text, {}, "README.md", None, None))
        self.assertEqual(runner.failures, 0)
        self.assertGreater(runner.tries, 5)


if __name__ == "__main__":
    unittest.main()
