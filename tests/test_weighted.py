"""A weighted opener (point 34)."""

import unittest
from fractions import Fraction
from itertools import permutations
from random import Random

from countdoors.errors import BadDoor, BadWeights
from countdoors.nests import first_numbers, last_numbers
from countdoors.openers import end_chances
from countdoors.weighted import weighted_ends, weighted_first

from tests import brute

CHAIN_9 = (1, 2, 3, 4, 5, 6, 7, 8, None)
APART_9 = (None,) * 9
UP_9 = tuple(range(9))


def some_weights(nest, seed):
    source = Random(f"{nest} weights {seed}")
    return tuple(source.choice([1, 2, 3, 100, source.randrange(1, 101)]) for _ in nest)


def plays(nest, numbers, weights, way=(), chance=Fraction(1)):
    """All (way, chance) of doors opened by chance until none is ready."""
    doors = brute.ready(nest, numbers, way)
    if not doors:
        yield way, chance
    total = sum(weights[door] for door in doors)
    for door in doors:
        yield from plays(nest, numbers, weights, (*way, door), chance * Fraction(weights[door], total))


class Weighted(unittest.TestCase):
    def test_small_nests(self):
        for nest, numbers in brute.houses():
            for seed in range(2):
                self.check(nest, numbers, some_weights(nest, seed))

    def test_five_doors(self):
        for nest in brute.all_nests(5)[::9]:
            self.check(nest, brute.full_numbers(nest, 5), some_weights(nest, 1))
            self.check(nest, brute.some_numbers(nest, 5, 5), some_weights(nest, 2))

    def check(self, nest, numbers, weights):
        with self.subTest(nest=nest, numbers=numbers, weights=weights):
            ways = list(plays(nest, numbers, weights))
            ends = {}
            for way, chance in ways:
                state = tuple(sorted(way))
                ends[state] = ends.get(state, 0) + chance
            self.assertEqual(weighted_ends(nest, numbers, weights), tuple((state, brute.ratio(ends[state])) for state in sorted(ends)))
            for one, other in permutations(range(len(nest)), 2):
                chances = [chance for way, chance in ways if one in way and (other not in way or way.index(one) < way.index(other))]
                self.assertEqual(weighted_first(nest, numbers, weights, one, other), brute.ratio(sum(chances)))

    def test_equal_weights(self):
        for nest, numbers in brute.houses(3):
            for weight in (1, 7, 100):
                self.assertEqual(weighted_ends(nest, numbers, (weight,) * len(nest)), end_chances(nest, numbers))

    def test_doors_that_stay_shut(self):
        nest, numbers = (None, None, None), ((0,), (), ())
        self.assertEqual([weighted_first(nest, numbers, (1, 1, 1), one, other) for one, other in [(0, 1), (1, 0), (1, 2), (2, 1)]],
                         [(1, 1), (0, 1), (0, 1), (0, 1)])
        self.assertEqual(weighted_ends(nest, ((),) * 3, (1, 2, 3)), (((), (1, 1)),))

    def test_the_same_door_twice(self):
        for nest, numbers, weights in [((None,), ((0,),), (1,)), ((None, None), ((0,), (0,)), (1, 2)), (APART_9, ((),) * 9, (1,) * 9)]:
            for door in range(len(nest)):
                self.assertRaises(BadDoor, weighted_first, nest, numbers, weights, door, door)
        for one, other in [(0, 2), (2, 0), (-1, 0), (True, 0), (0, False), (0, None), ("0", 1), ((0,), 1), (9, 9)]:
            self.assertRaises(BadDoor, weighted_first, (None, None), ((0,), (0,)), (1, 2), one, other)

    def test_limits_of_weights(self):
        nest, numbers = (None, None), ((0,), (0,))
        self.assertEqual([weighted_first(nest, numbers, (1, 100), 0, 1), weighted_first(nest, numbers, (1, 100), 1, 0)], [(1, 101), (100, 101)])
        for weights in [(0, 1), (1, 101), (1, -1), (1,), (1, 1, 1), (True, 1), (1, None), (1, "1"), (1, (1,)), [1, 1], None, 1, "11", (), {}]:
            with self.subTest(weights=weights):
                self.assertRaises(BadWeights, weighted_ends, nest, numbers, weights)
                self.assertRaises(BadWeights, weighted_first, nest, ((), ()), weights, 0, 0)

    def test_one_door(self):
        self.assertEqual([weighted_ends((None,), ((0,),), (100,)), weighted_ends((None,), ((1,),), (1,))], [(((0,), (1, 1)),), (((), (1, 1)),)])

    def test_nine_doors(self):
        weights = (1, 2, 3, 5, 8, 13, 21, 34, 100)
        self.assertEqual(weighted_ends(APART_9, ((0,),) * 9, weights), ((UP_9, (1, 1)),))
        # Which of two is ahead does not depend on the others, where all are always ready.
        self.assertEqual([weighted_first(APART_9, ((0,),) * 9, weights, 6, 7), weighted_first(APART_9, ((0,),) * 9, weights, 7, 6)], [(21, 55), (34, 55)])
        self.assertEqual([weighted_first(CHAIN_9, last_numbers(CHAIN_9), weights, 0, 8), weighted_first(CHAIN_9, last_numbers(CHAIN_9), weights, 8, 0)],
                         [(1, 1), (0, 1)])
        ends = weighted_ends(CHAIN_9, first_numbers(CHAIN_9), weights)
        self.assertEqual([len(ends), sum(Fraction(*chance) for _, chance in ends)], [256, 1])
        self.assertEqual(ends[0], ((0,), (1, 187)))


if __name__ == "__main__":
    unittest.main()
