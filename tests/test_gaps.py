"""Gaps (point 35)."""

import unittest
from fractions import Fraction
from itertools import combinations, permutations

from countdoors.errors import BadDoor, BadNumbers, TooMany
from countdoors.gaps import gap_chances, mean_gap
from countdoors.nests import first_numbers, free_numbers, last_numbers

from tests import brute

CHAIN_7 = (1, 2, 3, 4, 5, 6, None)
APART_7 = (None,) * 7
APART_8 = (None,) * 8
APART_9 = (None,) * 9


class Gaps(unittest.TestCase):
    def test_small_nests(self):
        for nest, numbers in brute.houses():
            self.check(nest, numbers)

    def test_five_doors(self):
        for nest in brute.all_nests(5)[::6]:
            self.check(nest, brute.full_numbers(nest, 2))

    def check(self, nest, numbers):
        orders = brute.orders_of(nest, numbers)
        with self.subTest(nest=nest, numbers=numbers):
            for one, other in permutations(range(len(nest)), 2):
                gaps = [order.index(other) - order.index(one) for order in orders]
                chances = tuple((gap, brute.ratio(gaps.count(gap), len(gaps))) for gap in sorted(set(gaps)))
                self.assertEqual(gap_chances(nest, numbers, one, other), chances)
            lengths = [
                abs(order.index(one) - order.index(other))
                for order in orders for one, other in combinations(range(len(nest)), 2)
            ]
            mean = brute.ratio(Fraction(sum(lengths), len(lengths))) if lengths else None
            self.assertEqual(mean_gap(nest, numbers), mean)

    def test_no_order_is_allowed(self):
        for nest in [(None, None), (2, 2, None), APART_7]:
            numbers = ((0,),) * (len(nest) - 1) + ((8,),)
            self.assertEqual([gap_chances(nest, numbers, 0, 1), mean_gap(nest, numbers)], [(), None])

    def test_one_door(self):
        self.assertIsNone(mean_gap((None,), ((0,),)))
        self.assertIsNone(mean_gap((None,), ((),)))
        self.assertRaises(BadDoor, gap_chances, (None,), ((0,),), 0, 0)

    def test_seven_doors(self):
        self.assertEqual([mean_gap(APART_7, first_numbers(APART_7)), mean_gap(CHAIN_7, last_numbers(CHAIN_7))], [(8, 3), (8, 3)])
        self.assertEqual(gap_chances(CHAIN_7, last_numbers(CHAIN_7), 5, 1), ((-4, (1, 1)),))
        # All orders: of the 42 pairs of places 7 less the gap are so far apart.
        right = tuple((gap, brute.ratio(7 - abs(gap), 42)) for gap in range(-6, 7) if gap)
        self.assertEqual(gap_chances(APART_7, first_numbers(APART_7), 3, 6), right)
        self.assertEqual(gap_chances(CHAIN_7, free_numbers(CHAIN_7), 6, 0), right)

    def test_more_than_seven_doors(self):
        for nest in [APART_8, APART_9]:
            many = len(nest)
            for numbers in [((0,),) * many, ((),) * many]:
                for call in [(gap_chances, nest, numbers, 0, 1), (mean_gap, nest, numbers)]:
                    with self.assertRaises(TooMany) as caught:
                        call[0](*call[1:])
                    self.assertEqual(caught.exception.most, 7)
                self.assertRaises(BadDoor, gap_chances, nest, numbers, 0, many)
                self.assertRaises(BadDoor, gap_chances, nest, numbers, -1, 0)
                self.assertRaises(BadDoor, gap_chances, nest, numbers, 1, 1)
            self.assertRaises(BadNumbers, mean_gap, nest, ((0,),) * 7)

    def test_the_same_door_twice(self):
        for one, other in [(0, 0), (2, 2), (0, 3), (3, 0), (3, 3), (True, 0), (0, False), (None, 1), (1, "1"), (1, (0,)), (-1, 0)]:
            self.assertRaises(BadDoor, gap_chances, (2, 2, None), ((0,), (0,), (1,)), one, other)
            self.assertRaises(BadDoor, gap_chances, (2, 2, None), ((), (), ()), one, other)


if __name__ == "__main__":
    unittest.main()
