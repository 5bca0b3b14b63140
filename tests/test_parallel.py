"""Rounds (point 30)."""

import unittest
from itertools import chain, combinations

from countdoors.nests import first_numbers, free_numbers, last_numbers
from countdoors.parallel import greedy_state, least_rounds, rounds_plan, shows_rounds

from tests import brute, wrong

CHAIN_9 = (1, 2, 3, 4, 5, 6, 7, 8, None)
APART_9 = (None,) * 9
UP_9 = tuple(range(9))


def lots(doors):
    return chain.from_iterable(combinations(doors, many) for many in range(1, len(doors) + 1))


def all_plans(nest, numbers, state):
    """All tuples of rounds that open all closed doors."""
    if len(state) == len(nest):
        yield ()
    for lot in lots(brute.ready(nest, numbers, state)):
        for rest in all_plans(nest, numbers, (*state, *lot)):
            yield (lot, *rest)


def slow_judge(nest, numbers, state, value):
    if value is None:
        return not brute.ways_from(nest, numbers, state)
    if type(value) is not tuple:
        return False
    done = set(state)
    for lot in value:
        if not brute.is_state(nest, lot) or lot == ():
            return False
        if not all(brute.can_open(nest, numbers, done, door) for door in lot):
            return False
        done |= set(lot)
    return len(done) == len(nest)


def slow_greedy(nest, numbers, state):
    doors = brute.ready(nest, numbers, state)
    return slow_greedy(nest, numbers, (*state, *doors)) if doors else tuple(sorted(state))


class Rounds(unittest.TestCase):
    def test_small_nests(self):
        for nest, numbers in brute.houses(4, 2):
            for state in brute.all_states(nest):
                self.check(nest, numbers, state)

    def test_five_doors(self):
        for nest in brute.all_nests(5)[::9]:
            for numbers in [brute.full_numbers(nest, 3), free_numbers(nest), last_numbers(nest)]:
                for state in [(), (0,), (1, 3)]:
                    self.check(nest, numbers, state)

    def check(self, nest, numbers, state):
        with self.subTest(nest=nest, numbers=numbers, state=state):
            least = min(map(len, all_plans(nest, numbers, state)), default=None)
            self.assertEqual(least_rounds(nest, numbers, state), least)
            plan = rounds_plan(nest, numbers, state)
            self.assertEqual(None if plan is None else len(plan), least)
            self.assertIs(slow_judge(nest, numbers, state, plan), True)
            self.assertIs(shows_rounds(nest, numbers, state, plan), True)
            self.assertIs(shows_rounds(nest, numbers, state, None), least is None)
            self.assertEqual(greedy_state(nest, numbers, state), slow_greedy(nest, numbers, state))

    def test_plans_of_any_length(self):
        for nest, numbers in [((2, 2, None), ((0,), (0,), (0, 1, 2))), ((2, 2, None), ((0,), (0,), (1,))), ((1, 2, None), ((0,), (0, 1), (1, 2)))]:
            plans = list(all_plans(nest, numbers, ()))
            self.assertGreater(len({len(plan) for plan in plans}), 1)
            for plan in plans:
                self.assertIs(shows_rounds(nest, numbers, (), plan), True)

    def test_all_tuples_of_lots(self):
        for nest, numbers, state in [((1, None), ((0,), (0, 1)), ()), ((1, None), ((0,), (1,)), ()), ((None, None), ((0,), (0,)), ()),
                                     ((2, 2, None), ((0,), (0,), (1,)), (0,)), ((2, 2, None), ((0,), (0,), (1,)), (0, 1))]:
            values = [()]
            for _ in range(3):
                values += [(*value, lot) for value in values for lot in [(), *lots(range(len(nest)))]]
            shown = {value for value in values if shows_rounds(nest, numbers, state, value)}
            self.assertEqual(shown, {value for value in values if slow_judge(nest, numbers, state, value)})
            self.assertEqual(shown, set(all_plans(nest, numbers, state)))

    def test_bent_plans(self):
        for nest, numbers, state in [((2, 2, None), ((0,), (0,), (1,)), ()), ((1, 2, None), ((0,), (1,), (2,)), ()), ((None,), ((0,),), ()),
                                     ((None,), ((1,),), ()), ((None,), ((0,),), (0,)), ((2, 3, None, None), ((0,),) * 4, (3,)),
                                     ((None,) * 4, ((0,),) * 4, ()), ((2, 2, None), ((0,), (0,), (0,)), (0,))]:
            plan = rounds_plan(nest, numbers, state)
            joined = [plan[:at] + (tuple(sorted(plan[at] + plan[at + 1])),) + plan[at + 2:] for at in range(len(plan) - 1)] if plan else []
            for value in [*wrong.bends(plan), *wrong.NO_ANSWERS, *joined, ((),), ((), ())]:
                with self.subTest(nest=nest, numbers=numbers, state=state, value=value):
                    self.assertIs(shows_rounds(nest, numbers, state, value), slow_judge(nest, numbers, state, value))

    def test_all_doors_open(self):
        for nest, numbers in [((None,), ((),)), ((2, 2, None), ((0,), (0,), (1,))), (APART_9, ((),) * 9)]:
            full = tuple(range(len(nest)))
            self.assertEqual([least_rounds(nest, numbers, full), rounds_plan(nest, numbers, full), greedy_state(nest, numbers, full)], [0, (), full])
            self.assertEqual([shows_rounds(nest, numbers, full, value) for value in [(), None, ((),), [], (0,)]], [True] + [False] * 4)

    def test_lost_states(self):
        nest, numbers = (2, 2, None), ((0,), (0,), (1,))
        self.assertEqual([least_rounds(nest, numbers, (0, 1)), rounds_plan(nest, numbers, (0, 1)), greedy_state(nest, numbers, (0, 1))], [None, None, (0, 1)])
        self.assertEqual([shows_rounds(nest, numbers, (0, 1), value) for value in [None, (), ((2,),)]], [True, False, False])

    def test_one_and_nine_doors(self):
        self.assertEqual([least_rounds((None,), ((0,),), ()), rounds_plan((None,), ((0,),), ())], [1, ((0,),)])
        zeros = ((0,),) * 9
        self.assertEqual([least_rounds(APART_9, zeros, ()), rounds_plan(APART_9, zeros, ())], [1, (UP_9,)])
        self.assertIs(shows_rounds(APART_9, zeros, (), tuple((door,) for door in UP_9[::-1])), True)
        # Each door of the chain is open before the one around it.
        self.assertEqual(rounds_plan(CHAIN_9, last_numbers(CHAIN_9), ()), tuple((door,) for door in UP_9))
        self.assertEqual([least_rounds(CHAIN_9, first_numbers(CHAIN_9), ()), least_rounds(CHAIN_9, free_numbers(CHAIN_9), (4,))], [1, 1])
        self.assertEqual(greedy_state(CHAIN_9, ((0,),) * 3 + ((1,), (4,)) + ((),) * 4, ()), (0, 1, 2))
        self.assertEqual(greedy_state(CHAIN_9, ((0,),) * 3 + ((3,), (4,)) + ((),) * 4, ()), (0, 1, 2, 3, 4))


if __name__ == "__main__":
    unittest.main()
