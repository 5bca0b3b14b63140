"""Sums of ranks (point 11)."""

import unittest
from math import factorial

from countdoors.nests import first_numbers, free_numbers, last_numbers, mixings
from countdoors.sums import mean_sum, rest_counts, sum_counts, with_sum

from tests import brute

CHAIN_9 = (1, 2, 3, 4, 5, 6, 7, 8, None)
APART_9 = (None,) * 9
STAR_9 = (8,) * 8 + (None,)


class Sums(unittest.TestCase):
    def test_small_nests(self):
        for nest, numbers in brute.houses():
            with self.subTest(nest=nest, numbers=numbers):
                orders = brute.orders_of(nest, numbers)
                sums = [sum(brute.ranks_of(nest, order)) for order in orders]
                greatest = sum(len(brute.doors_inside(nest, door)) for door in range(len(nest)))
                counts = tuple(sums.count(total) for total in range(greatest + 1))
                self.assertEqual(sum_counts(nest, numbers), counts)
                for many in range(1, 10):
                    rests = [total % many for total in sums]
                    self.assertEqual(rest_counts(nest, numbers, many), tuple(rests.count(rest) for rest in range(many)))
                for total in [*range(greatest + 3), 36]:
                    least = orders[sums.index(total)] if total in sums else None
                    self.assertEqual(with_sum(nest, numbers, total), least)
                self.assertEqual(mean_sum(nest, numbers), slow_mean(sums))

    def test_one_door(self):
        self.assertEqual([sum_counts((None,), ((0,),)), sum_counts((None,), ((),))], [(1,), (0,)])
        self.assertEqual([mean_sum((None,), ((0,),)), mean_sum((None,), ((1,),))], [((0, 1), (0, 1)), None])
        self.assertEqual([with_sum((None,), ((0,),), 0), with_sum((None,), ((0, 1),), 1)], [(0,), None])
        self.assertEqual([rest_counts((None,), ((0,),), 1), rest_counts((None,), ((0,),), 9)], [(1,), (1,) + (0,) * 8])

    def test_no_order(self):
        nest, numbers = (2, 2, None), ((0,), (), (0, 1))
        self.assertEqual([sum_counts(nest, numbers), rest_counts(nest, numbers, 4)], [(0, 0, 0), (0, 0, 0, 0)])
        self.assertIsNone(mean_sum(nest, numbers))
        self.assertEqual([with_sum(nest, numbers, total) for total in range(37)], [None] * 37)

    def test_sum_that_no_order_has(self):
        nest, numbers = (2, 2, None), ((0,), (0,), (0, 2))
        self.assertEqual([with_sum(nest, numbers, total) for total in range(4)], [(2, 0, 1), None, (0, 1, 2), None])

    def test_nine_doors(self):
        counts = sum_counts(CHAIN_9, free_numbers(CHAIN_9))
        self.assertEqual([len(counts), sum(counts)], [37, factorial(9)])
        # As many as permutations of 9 have so many inversions.
        self.assertEqual(counts[:5], (1, 8, 35, 111, 285))
        self.assertEqual(counts, counts[::-1])
        self.assertEqual(sum_counts(APART_9, first_numbers(APART_9)), (factorial(9),))
        self.assertEqual(sum_counts(STAR_9, ((0,),) * 8 + ((1, 8),)), (0, factorial(8)) + (0,) * 6 + (factorial(8),))
        self.assertEqual(rest_counts(CHAIN_9, free_numbers(CHAIN_9), 9), (factorial(8),) * 9)
        self.assertEqual(mean_sum(CHAIN_9, free_numbers(CHAIN_9)), ((18, 1), (23, 1)))
        self.assertEqual(mean_sum(CHAIN_9, last_numbers(CHAIN_9)), ((36, 1), (0, 1)))
        self.assertEqual(with_sum(CHAIN_9, free_numbers(CHAIN_9), 36), tuple(range(9)))
        self.assertEqual(with_sum(CHAIN_9, free_numbers(CHAIN_9), 0), tuple(range(8, -1, -1)))
        self.assertEqual(with_sum(CHAIN_9, free_numbers(CHAIN_9), 35), (0, 1, 2, 3, 4, 5, 6, 8, 7))

    def test_counts_are_mixings_times_a_product(self):
        nest = (2, 2, 8, 4, 5, 8, 7, 8, None)
        numbers = ((0,), (0, 1), (0, 2, 4), (0,), (1,), (2,), (0,), (1,), (0, 5))
        counts = {total: many for total, many in enumerate(sum_counts(nest, numbers)) if many}
        times = mixings(nest)
        self.assertEqual(counts, {4: times, 6: times, 9: times, 11: times})


def slow_mean(sums):
    if not sums:
        return None
    top, bottom = brute.ratio(sum(sums), len(sums))
    squares = sum((total * bottom - top) ** 2 for total in sums)
    return (top, bottom), brute.ratio(squares, bottom * bottom * len(sums))


if __name__ == "__main__":
    unittest.main()
