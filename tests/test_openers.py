"""A chance opener (point 24)."""

import unittest
from fractions import Fraction
from itertools import permutations

from countdoors.nests import first_numbers, free_numbers, last_numbers
from countdoors.openers import all_chance, end_chances, mean_open, order_chance
from countdoors.states import is_safe, last_states

from tests import brute

CHAIN_9 = (1, 2, 3, 4, 5, 6, 7, 8, None)
APART_9 = (None,) * 9


def plays(nest, numbers, way=(), chance=Fraction(1)):
    """All (way, chance) of doors opened by chance until none is ready."""
    doors = brute.ready(nest, numbers, way)
    if not doors:
        yield way, chance
    for door in doors:
        yield from plays(nest, numbers, (*way, door), chance / len(doors))


class Openers(unittest.TestCase):
    def test_small_nests(self):
        for nest, numbers in brute.houses():
            self.check(nest, numbers)

    def test_five_doors(self):
        for nest in brute.all_nests(5)[::6]:
            self.check(nest, brute.full_numbers(nest, 5))
            self.check(nest, brute.some_numbers(nest, 5, 5))

    def check(self, nest, numbers):
        with self.subTest(nest=nest, numbers=numbers):
            ways = dict(plays(nest, numbers))
            ends = {}
            for way, chance in ways.items():
                state = tuple(sorted(way))
                ends[state] = ends.get(state, 0) + chance
            self.assertEqual(all_chance(nest, numbers), brute.ratio(ends.get(tuple(range(len(nest))), 0)))
            self.assertEqual(end_chances(nest, numbers), tuple((state, brute.ratio(ends[state])) for state in sorted(ends)))
            mean = sum(len(state) * chance for state, chance in ends.items())
            self.assertEqual(mean_open(nest, numbers), brute.ratio(mean))
            for order in permutations(range(len(nest))):
                self.assertEqual(order_chance(nest, numbers, order), brute.ratio(ways.get(order, 0)))

    def test_last_states(self):
        for nest, numbers in brute.houses(3):
            self.assertEqual(tuple(state for state, _ in end_chances(nest, numbers)), last_states(nest, numbers))
            if is_safe(nest, numbers):
                self.assertEqual(all_chance(nest, numbers), (1, 1))

    def test_nothing_can_be_opened(self):
        for nest in [(None,), (2, 2, None), CHAIN_9]:
            numbers = ((),) * len(nest)
            self.assertEqual([all_chance(nest, numbers), end_chances(nest, numbers), mean_open(nest, numbers)],
                             [(0, 1), (((), (1, 1)),), (0, 1)])
            self.assertEqual(order_chance(nest, numbers, tuple(range(len(nest)))), (0, 1))

    def test_one_door(self):
        self.assertEqual([all_chance((None,), ((0,),)), mean_open((None,), ((0, 1),)), order_chance((None,), ((0,),), (0,))],
                         [(1, 1), (1, 1), (1, 1)])

    def test_nine_doors(self):
        zeros = ((0,),) * 9
        up = tuple(range(9))
        self.assertEqual(order_chance(APART_9, zeros, up), (1, 362880))
        self.assertEqual([all_chance(APART_9, zeros), mean_open(APART_9, zeros)], [(1, 1), (9, 1)])
        self.assertEqual(order_chance(CHAIN_9, last_numbers(CHAIN_9), up), (1, 1))
        self.assertEqual(order_chance(CHAIN_9, last_numbers(CHAIN_9), up[::-1]), (0, 1))
        # Each time one of the doors that lie around all others has to be the one.
        self.assertEqual(all_chance(CHAIN_9, first_numbers(CHAIN_9)), (1, 362880))
        self.assertEqual(mean_open(CHAIN_9, first_numbers(CHAIN_9)), (7129, 2520))
        ends = end_chances(CHAIN_9, first_numbers(CHAIN_9))
        self.assertEqual(len(ends), 256)
        self.assertEqual(sum(Fraction(*chance) for _, chance in ends), 1)
        self.assertEqual(end_chances(CHAIN_9, free_numbers(CHAIN_9)), ((up, (1, 1)),))


if __name__ == "__main__":
    unittest.main()
