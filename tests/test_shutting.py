"""Doors that shut again (point 25)."""

import unittest
from itertools import product

from countdoors.nests import first_numbers, free_numbers, last_numbers
from countdoors.shutting import farthest_states, joined_states, parts_of_states, steps_between, way_between

from tests import brute

CHAIN_9 = (1, 2, 3, 4, 5, 6, 7, 8, None)
APART_9 = (None,) * 9
UP_9 = tuple(range(9))


def step(nest, numbers, state, door):
    """The state behind a step, None if the door can be neither opened nor shut."""
    count = len([other for other in brute.doors_inside(nest, door) if other in state])
    if count not in numbers[door]:
        return None
    return tuple(sorted(set(state) ^ {door}))


def least_steps(nest, numbers):
    """The dict of the least numbers of steps between all states, without those that have no way."""
    states = brute.all_states(nest)
    table = {(state, state): 0 for state in states}
    for one in states:
        for door in range(len(nest)):
            other = step(nest, numbers, one, door)
            if other is not None:
                table[one, other] = 1
    for between in states:
        for one in states:
            for other in states:
                if (one, between) in table and (between, other) in table:
                    many = table[one, between] + table[between, other]
                    table[one, other] = min(many, table.get((one, other), many))
    return table


def least_way(nest, numbers, one, other, many):
    """The least of all tuples of so many doors that lead from one state to another."""
    for way in product(range(len(nest)), repeat=many):
        state = one
        for door in way:
            state = None if state is None else step(nest, numbers, state, door)
        if state == other:
            return way
    return None


class Shutting(unittest.TestCase):
    def test_small_nests(self):
        for nest, numbers in brute.houses(3):
            self.check(nest, numbers)
        for nest in brute.all_nests(4):
            self.check(nest, brute.full_numbers(nest, 4))
            self.check(nest, brute.some_numbers(nest, 4))

    def test_five_doors(self):
        for nest in brute.all_nests(5)[::20]:
            self.check(nest, brute.full_numbers(nest, 6))

    def check(self, nest, numbers):
        states = brute.all_states(nest)
        table = least_steps(nest, numbers)
        parts = {}
        for one in states:
            with self.subTest(nest=nest, numbers=numbers, one=one):
                there = {other: table[one, other] for other in states if (one, other) in table}
                parts[min(there)] = len(there)
                self.assertEqual(joined_states(nest, numbers, one), len(there))
                most = max(there.values())
                far = tuple(sorted(other for other in there if there[other] == most))
                self.assertEqual(farthest_states(nest, numbers, one), (most, far))
                for other in states:
                    self.check_way(nest, numbers, one, other, there.get(other))
        self.assertEqual(parts_of_states(nest, numbers), tuple(sorted(parts.values())))

    def check_way(self, nest, numbers, one, other, many):
        self.assertEqual(steps_between(nest, numbers, one, other), many)
        way = way_between(nest, numbers, one, other)
        if many is None:
            self.assertIsNone(way)
        elif len(nest) ** many <= 200:
            self.assertEqual(way, least_way(nest, numbers, one, other, many))
        else:
            self.assertEqual(len(way), many)
            state = one
            for door in way:
                state = step(nest, numbers, state, door)
            self.assertEqual(state, other)

    def test_long_ways_are_the_least_ones(self):
        for nest, numbers in [((1, 2, None), ((0,), (1,), (1,))), ((1, 2, None), ((0, 1), (1,), (1,))), ((2, 2, None), ((0,), (0,), (2,))),
                              ((1, 2, 3, None), ((0,), (1,), (1,), (1,)))]:
            most = 0
            for one in brute.all_states(nest):
                many, far = farthest_states(nest, numbers, one)
                for other in far:
                    if len(nest) ** many < 100000:
                        most = max(most, many)
                        self.assertEqual(way_between(nest, numbers, one, other), least_way(nest, numbers, one, other, many))
            self.assertGreater(most, len(nest))

    def test_the_same_state(self):
        for nest, numbers in [((None,), ((),)), ((2, 2, None), ((0,), (0,), (1,))), (CHAIN_9, ((8,),) * 9)]:
            for state in [(), (0,), tuple(range(len(nest)))]:
                self.assertEqual([steps_between(nest, numbers, state, state), way_between(nest, numbers, state, state)], [0, ()])

    def test_nothing_can_be_reached(self):
        nest, numbers = (2, 2, None), ((), (1,), (3,))
        self.assertEqual([joined_states(nest, numbers, (1,)), farthest_states(nest, numbers, (1,))], [1, (0, ((1,),))])
        self.assertEqual([steps_between(nest, numbers, (), (0,)), way_between(nest, numbers, (), (0,))], [None, None])
        self.assertEqual(parts_of_states(nest, numbers), (1,) * 8)
        self.assertEqual(parts_of_states(APART_9, ((),) * 9), (1,) * 512)

    def test_with_0_all_states_are_joined(self):
        for nest in [(1, 2, None), (2, 2, None), CHAIN_9, APART_9]:
            for numbers in [first_numbers(nest), free_numbers(nest)]:
                self.assertEqual(parts_of_states(nest, numbers), (2 ** len(nest),))
                self.assertEqual(joined_states(nest, numbers, (0, 1, 2)), 2 ** len(nest))

    def test_nine_doors(self):
        self.assertEqual(farthest_states(APART_9, first_numbers(APART_9), (3,)), (9, ((0, 1, 2, 4, 5, 6, 7, 8),)))
        self.assertEqual(way_between(APART_9, first_numbers(APART_9), (3, 5), (0, 5, 8)), (0, 3, 8))
        self.assertEqual(way_between(CHAIN_9, last_numbers(CHAIN_9), (), UP_9), UP_9)
        self.assertEqual(way_between(CHAIN_9, last_numbers(CHAIN_9), UP_9, (8,)), (7, 6, 5, 4, 3, 2, 1, 0))
        # All doors inside have to be open for door 8, and are shut again behind it.
        self.assertEqual(steps_between(CHAIN_9, last_numbers(CHAIN_9), (), (8,)), 17)
        self.assertEqual(steps_between(CHAIN_9, first_numbers(CHAIN_9), (), UP_9), 9)
        self.assertEqual(parts_of_states(CHAIN_9, last_numbers(CHAIN_9)), (512,))
        self.assertEqual(sum(parts_of_states(CHAIN_9, ((0,), (1,), (0,), (), (2,), (5,), (1, 3), (7,), (4,)))), 512)


if __name__ == "__main__":
    unittest.main()
