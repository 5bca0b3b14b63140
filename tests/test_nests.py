"""Nests and numbers (points 2 and 3)."""

import unittest
from math import factorial

from countdoors.nests import (
    around, at_once, depths, first_numbers, free_numbers, inside, kept_numbers, last_numbers, mixings, sizes,
)

from tests import brute

CHAIN_9 = (1, 2, 3, 4, 5, 6, 7, 8, None)
APART_9 = (None,) * 9
STAR_9 = (8,) * 8 + (None,)


class Nests(unittest.TestCase):
    def test_small_nests(self):
        for many in range(1, 6):
            for nest in brute.all_nests(many):
                with self.subTest(nest):
                    insides = [brute.doors_inside(nest, door) for door in range(many)]
                    for door in range(many):
                        self.assertEqual(inside(nest, door), tuple(insides[door]))
                        self.assertEqual(around(nest, door), tuple(brute.doors_around(nest, door)))
                    self.assertEqual(sizes(nest), tuple(len(row) + 1 for row in insides))
                    self.assertEqual(depths(nest), tuple(len(brute.doors_around(nest, d)) for d in range(many)))

    def test_at_once(self):
        for many in range(1, 5):
            for nest in brute.all_nests(many):
                for door in [None, *range(many)]:
                    with self.subTest(nest=nest, door=door):
                        rooms = tuple(other for other in range(many) if nest[other] == door)
                        self.assertEqual(at_once(nest, door), rooms)

    def test_one_door(self):
        nest = (None,)
        self.assertEqual([inside(nest, 0), around(nest, 0), at_once(nest, 0), at_once(nest, None)], [(), (), (), (0,)])
        self.assertEqual([sizes(nest), depths(nest), mixings(nest)], [(1,), (0,), 1])
        self.assertEqual([free_numbers(nest), last_numbers(nest), first_numbers(nest)], [((0,),)] * 3)

    def test_nine_doors(self):
        self.assertEqual(inside(CHAIN_9, 8), tuple(range(8)))
        self.assertEqual(around(CHAIN_9, 0), tuple(range(1, 9)))
        self.assertEqual(at_once(CHAIN_9, 8), (7,))
        self.assertEqual(at_once(STAR_9, 8), tuple(range(8)))
        self.assertEqual(at_once(APART_9, None), tuple(range(9)))
        self.assertEqual(sizes(CHAIN_9), tuple(range(1, 10)))
        self.assertEqual(sizes(STAR_9), (1,) * 8 + (9,))
        self.assertEqual(depths(CHAIN_9), tuple(range(8, -1, -1)))
        self.assertEqual(depths(APART_9), (0,) * 9)

    def test_mixings(self):
        self.assertEqual([mixings(CHAIN_9), mixings(APART_9), mixings(STAR_9)], [1, factorial(9), factorial(8)])
        for many in range(1, 6):
            for nest in brute.all_nests(many):
                product = 1
                for door in range(many):
                    product *= len(brute.doors_inside(nest, door)) + 1
                with self.subTest(nest):
                    self.assertEqual(mixings(nest) * product, factorial(many))


class Numbers(unittest.TestCase):
    def test_made_numbers(self):
        nest = (2, 2, 4, 4, None)
        self.assertEqual(free_numbers(nest), ((0,), (0,), (0, 1, 2), (0,), (0, 1, 2, 3, 4)))
        self.assertEqual(last_numbers(nest), ((0,), (0,), (2,), (0,), (4,)))
        self.assertEqual(first_numbers(nest), ((0,),) * 5)

    def test_nine_doors(self):
        self.assertEqual(free_numbers(CHAIN_9), tuple(tuple(range(size)) for size in range(1, 10)))
        self.assertEqual(last_numbers(CHAIN_9), tuple((number,) for number in range(9)))
        self.assertEqual(first_numbers(APART_9), ((0,),) * 9)

    def test_kept_numbers(self):
        numbers = ((0, 1), (), (0, 2, 3, 8), (1,), (4, 5))
        self.assertEqual(kept_numbers((2, 2, 4, 4, None), numbers), ((0,), (), (0, 2), (), (4,)))
        self.assertEqual(kept_numbers((None,), ((1, 8),)), ((),))
        nine = (tuple(range(9)),) * 9
        self.assertEqual(kept_numbers(CHAIN_9, nine), free_numbers(CHAIN_9))
        self.assertEqual(kept_numbers(STAR_9, nine)[8], tuple(range(9)))

    def test_kept_by_definition(self):
        for nest, numbers in brute.houses():
            with self.subTest(nest=nest, numbers=numbers):
                kept = [
                    tuple(number for number in some if number <= len(brute.doors_inside(nest, door)))
                    for door, some in enumerate(numbers)
                ]
                self.assertEqual(kept_numbers(nest, numbers), tuple(kept))


if __name__ == "__main__":
    unittest.main()
