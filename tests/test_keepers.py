"""A keeper and a thief (point 17)."""

import unittest
from itertools import combinations, product

from countdoors.errors import BadFlag
from countdoors.keepers import end_value, keeper_plan, kept_open, shows_plan
from countdoors.nests import first_numbers, free_numbers, last_numbers

from tests import brute, wrong

CHAIN_9 = (1, 2, 3, 4, 5, 6, 7, 8, None)
APART_9 = (None,) * 9
BOTH = (True, False)


def slow_end(nest, numbers, state, is_keeper):
    """How many doors are open at the end, both hands opening what is best for them."""
    doors = brute.ready(nest, numbers, state)
    if not doors:
        return len(state)
    ends = [slow_end(nest, numbers, brute.further(state, door), not is_keeper) for door in doors]
    return max(ends) if is_keeper else min(ends)


def followed(nest, numbers, is_first, choices):
    """The states at which a keeper who follows choices has to open a door; None if not all doors open."""
    def play(state, is_keeper):
        doors = brute.ready(nest, numbers, state)
        if not doors:
            return len(state) == len(nest)
        if is_keeper:
            met.add(state)
            doors = [door for door in doors if door == choices.get(state)]
        return bool(doors) and all([play(brute.further(state, door), not is_keeper) for door in doors])
    met = set()
    return met if play((), is_first) else None


def slow_judge(nest, numbers, is_first, value):
    if value is None:
        return slow_end(nest, numbers, (), is_first) < len(nest)
    if type(value) is not tuple or not all(type(item) is tuple and len(item) == 2 for item in value):
        return False
    if not all(brute.is_state(nest, state) and brute.is_number(door, 0, len(nest) - 1) for state, door in value):
        return False
    met = followed(nest, numbers, is_first, dict(value))
    return met is not None and [state for state, _ in value] == sorted(met)


class Keepers(unittest.TestCase):
    def test_small_nests(self):
        for nest, numbers in brute.houses():
            for state in brute.all_states(nest):
                for is_first in BOTH:
                    with self.subTest(nest=nest, numbers=numbers, state=state, is_first=is_first):
                        end = slow_end(nest, numbers, state, is_first)
                        self.assertEqual(end_value(nest, numbers, state, is_first), end)
                        self.assertIs(kept_open(nest, numbers, state, is_first), end == len(nest))

    def test_plans(self):
        plans = 0
        for nest, numbers in brute.houses():
            for is_first in BOTH:
                with self.subTest(nest=nest, numbers=numbers, is_first=is_first):
                    plan = keeper_plan(nest, numbers, is_first)
                    self.assertIs(plan is None, slow_end(nest, numbers, (), is_first) < len(nest))
                    self.assertIs(slow_judge(nest, numbers, is_first, plan), True)
                    self.assertIs(shows_plan(nest, numbers, is_first, plan), True)
                    self.assertIs(shows_plan(nest, numbers, is_first, None), plan is None)
                    plans += plan is not None
        self.assertGreater(plans, 100)

    def test_five_doors(self):
        for nest in brute.all_nests(5)[::11]:
            for numbers in [brute.full_numbers(nest, 3), free_numbers(nest), last_numbers(nest)]:
                for is_first in BOTH:
                    plan = keeper_plan(nest, numbers, is_first)
                    self.assertEqual(end_value(nest, numbers, (), is_first), slow_end(nest, numbers, (), is_first))
                    self.assertIs(slow_judge(nest, numbers, is_first, plan), True)

    def test_all_short_plans(self):
        """Each choice of some states with doors, right or wrong."""
        for nest, numbers in [((1, None), ((0,), (0, 1))), ((1, None), ((0,), (1,))), ((2, 2, None), ((0,), (0,), (1,))),
                              ((2, 2, None), ((0,), (0,), (1, 2))), ((2, 2, None), ((0,), (0,), (2,)))]:
            states = sorted(state for state in brute.all_states(nest) if len(state) < len(nest))
            for is_first in BOTH:
                for many in range(4):
                    for some in combinations(states, many):
                        for doors in product(range(len(nest)), repeat=many):
                            value = tuple(zip(some, doors))
                            right = slow_judge(nest, numbers, is_first, value)
                            self.assertIs(shows_plan(nest, numbers, is_first, value), right)

    def test_bent_plans(self):
        for nest, numbers in [((2, 2, None), ((0,), (0,), (1,))), ((2, 2, None), ((0,), (0,), (0, 1))),
                              ((1, 2, None), ((0,), (0, 1), (1, 2))), ((None,), ((0,),)), ((None,), ((),)),
                              ((2, 2, 3, None), ((0,), (0,), (1, 2), (0, 3)))]:
            for is_first in BOTH:
                plan = keeper_plan(nest, numbers, is_first)
                more = [] if plan is None else [plan + ((tuple(range(len(nest))), 0),), (((), 0),) + plan]
                for value in [*wrong.bends(plan), *wrong.NO_ANSWERS, *more]:
                    with self.subTest(nest=nest, numbers=numbers, is_first=is_first, value=value):
                        self.assertIs(shows_plan(nest, numbers, is_first, value),
                                      slow_judge(nest, numbers, is_first, value))

    def test_one_door(self):
        nest = (None,)
        self.assertEqual([keeper_plan(nest, ((0,),), is_first) for is_first in BOTH], [(((), 0),), ()])
        self.assertEqual([keeper_plan(nest, ((1,),), is_first) for is_first in BOTH], [None, None])
        self.assertEqual([end_value(nest, ((0, 1),), (), is_first) for is_first in BOTH], [1, 1])
        self.assertEqual([end_value(nest, ((),), (), is_first) for is_first in BOTH], [0, 0])

    def test_all_doors_open_and_lost(self):
        for is_first in BOTH:
            self.assertIs(kept_open((2, 2, None), ((), (), ()), (0, 1, 2), is_first), True)
            self.assertEqual(end_value(CHAIN_9, ((),) * 9, tuple(range(9)), is_first), 9)
            self.assertIs(kept_open((2, 2, None), ((0,), (0,), (1,)), (0, 1), is_first), False)
            self.assertEqual(end_value((2, 2, None), ((0,), (0,), (1,)), (0, 1), is_first), 2)
            self.assertIsNone(keeper_plan((2, 2, None), ((0,), (0,), (3,)), is_first))

    def test_nine_doors(self):
        for is_first in BOTH:
            self.assertEqual(end_value(APART_9, ((0,),) * 9, (3,), is_first), 9)
            plan = keeper_plan(APART_9, ((0,),) * 9, is_first)
            self.assertIs(shows_plan(APART_9, ((0,),) * 9, is_first, plan), True)
            self.assertIs(shows_plan(APART_9, ((0,),) * 9, is_first, plan[1:]), False)
            self.assertIs(shows_plan(APART_9, ((0,),) * 9, not is_first, plan), False)
        chain = tuple((tuple(range(many)), many) for many in range(9))
        self.assertEqual(keeper_plan(CHAIN_9, last_numbers(CHAIN_9), True), chain[::2])
        self.assertEqual(keeper_plan(CHAIN_9, last_numbers(CHAIN_9), False), chain[1::2])
        self.assertIsNone(keeper_plan(CHAIN_9, first_numbers(CHAIN_9), True))
        # The thief shuts off all others by door 0, which the keeper can be ahead of by one door.
        self.assertEqual([end_value(CHAIN_9, first_numbers(CHAIN_9), (), is_first) for is_first in BOTH], [2, 1])

    def test_flags(self):
        nest, numbers = (2, 2, None), ((0,), (0,), (1,))
        for flag in [0, 1, None, "True", (), (True,), [True], {}, -1]:
            self.assertRaises(BadFlag, kept_open, nest, numbers, (), flag)
            self.assertRaises(BadFlag, end_value, nest, numbers, (), flag)
            self.assertRaises(BadFlag, keeper_plan, nest, numbers, flag)
            self.assertRaises(BadFlag, shows_plan, nest, numbers, flag, None)


if __name__ == "__main__":
    unittest.main()
