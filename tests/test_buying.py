"""Bought numbers (point 31)."""

import unittest
from itertools import chain, combinations, permutations, product
from math import factorial
from random import Random

from countdoors.buying import bought, most_orders
from countdoors.errors import BadCount, BadNest, BadPrices
from countdoors.nests import free_numbers, sizes
from countdoors.orders import order_count

from tests import brute

CHAIN_9 = (1, 2, 3, 4, 5, 6, 7, 8, None)
APART_9 = (None,) * 9


def subsets(items):
    items = list(items)
    return list(chain.from_iterable(combinations(items, many) for many in range(len(items) + 1)))


def some_table(nest, seed):
    source = Random(f"{nest} table {seed}")
    prices = [[0, 1000], [0, 1, 2], [0, 0, 3, 5], [7], range(1001)][seed % 5]
    return tuple(tuple(source.choice(prices) for _ in range(len(brute.doors_inside(nest, door)) + 1)) for door in range(len(nest)))


def all_bought(nest, table):
    """All (count, cost, numbers) of numbers that have prices."""
    rows = [brute.ranks_of(nest, order) for order in permutations(range(len(nest)))]
    found = []
    for numbers in product(*[subsets(range(len(row))) for row in table]):
        count = sum(all(rank in some for rank, some in zip(row, numbers)) for row in rows)
        cost = sum(row[number] for row, some in zip(table, numbers) for number in some)
        found.append((count, cost, numbers))
    return found


class Buying(unittest.TestCase):
    def test_small_nests(self):
        for many in range(1, 4):
            for nest in brute.all_nests(many):
                for seed in range(5):
                    self.check(nest, some_table(nest, seed), range(1, factorial(many) + 2))

    def test_four_doors(self):
        for turn, nest in enumerate(brute.all_nests(4)):
            self.check(nest, some_table(nest, turn), [1, 2, 3, 5, 6, 8, 9, 12, 13, 16, 23, 24, 25])

    def check(self, nest, table, leasts):
        found = all_bought(nest, table)
        for least in leasts:
            with self.subTest(nest=nest, table=table, least=least):
                enough = [(cost, numbers) for count, cost, numbers in found if count >= least]
                self.assertEqual(bought(nest, table, least), min(enough, default=None))
        costs = sorted({cost for _, cost, _ in found})
        for most in {0, 10000, *costs[:8], *costs[::5], *[max(cost - 1, 0) for cost in costs[::7]]}:
            with self.subTest(nest=nest, table=table, most=most):
                paid = [(-count, cost, numbers) for count, cost, numbers in found if cost <= most]
                count, _, numbers = min(paid)
                self.assertEqual(most_orders(nest, table, most), (-count, numbers))

    def test_five_doors(self):
        for nest in [(None,) * 5, (2, 2, 4, None, None), (1, None, 4, 4, None), (3, 2, 4, None, None)]:
            for seed in range(3):
                self.check(nest, some_table(nest, seed), [1, 7, 20, 31, 60, 61, 119, 120, 121])

    def test_no_number_is_bought_in_vain(self):
        nest = (2, 2, None)
        table = ((5,), (0,), (0, 1000, 0))
        # Without a number for door 0 no order is allowed, and then none of the free ones is worth it.
        self.assertEqual(most_orders(nest, table, 4), (0, ((), (), ())))
        self.assertEqual(most_orders(nest, table, 5), (4, ((0,), (0,), (0, 2))))
        self.assertEqual(most_orders(nest, table, 1005), (6, ((0,), (0,), (0, 1, 2))))
        # Free numbers make a tuple less or greater.
        self.assertEqual(bought(nest, table, 1), (5, ((0,), (0,), (0,))))
        self.assertEqual(bought(nest, ((5,), (0,), (1, 0, 0)), 1), (5, ((0,), (0,), (1,))))
        self.assertEqual(bought(nest, ((5,), (0,), (0, 1, 0)), 3), (5, ((0,), (0,), (0, 2))))

    def test_one_door(self):
        self.assertEqual([bought((None,), ((1000,),), 1), bought((None,), ((0,),), 2)], [(1000, ((0,),)), None])
        self.assertEqual([most_orders((None,), ((1000,),), most) for most in (0, 999, 1000, 10000)],
                         [(0, ((),)), (0, ((),)), (1, ((0,),)), (1, ((0,),))])
        self.assertEqual([bought((None,), ((0,),), 1), most_orders((None,), ((0,),), 0)], [(0, ((0,),)), (1, ((0,),))])

    def test_nine_doors(self):
        ones = tuple((1,) * size for size in sizes(CHAIN_9))
        self.assertEqual(bought(CHAIN_9, ones, 362880), (45, free_numbers(CHAIN_9)))
        self.assertIsNone(bought(CHAIN_9, ones, 362881))
        self.assertIsNone(bought(APART_9, ((0,),) * 9, 1000000))
        self.assertEqual(bought(APART_9, ((1000,),) * 9, 362880), (9000, ((0,),) * 9))
        self.assertEqual(most_orders(APART_9, ((1000,),) * 9, 9000), (362880, ((0,),) * 9))
        self.assertEqual(most_orders(APART_9, ((1000,),) * 9, 8999), (0, ((),) * 9))
        self.assertEqual(most_orders(CHAIN_9, ones, 45), (362880, free_numbers(CHAIN_9)))
        self.assertEqual(most_orders(CHAIN_9, ones, 9), (1, ((0,),) * 9))
        # Eighteen numbers: two for each of all rooms but the first one, and one more.
        count, numbers = most_orders(CHAIN_9, ones, 18)
        self.assertEqual([count, order_count(CHAIN_9, numbers), sum(map(len, numbers))], [3 * 2 ** 7, 384, 18])
        self.assertEqual(numbers, ((0,), (0, 1), (0, 1), (0, 1), (0, 1), (0, 1), (0, 1), (0, 1), (0, 1, 2)))

    def test_limits(self):
        nest, table = (1, None), ((0,), (1000, 0))
        self.assertEqual([bought(nest, table, 1), bought(nest, table, 1000000)], [(0, ((0,), (1,))), None])
        self.assertEqual([most_orders(nest, table, 0), most_orders(nest, table, 10000)], [(1, ((0,), (1,))), (2, ((0,), (0, 1)))])
        for least in [0, 1000001, -1, True, None, "1", (1,)]:
            self.assertRaises(BadCount, bought, nest, table, least)
        for most in [-1, 10001, False, None, "0", ()]:
            self.assertRaises(BadCount, most_orders, nest, table, most)
        for bad in [((0,), (1001, 0)), ((0,), (0, -1)), ((0,), (0,)), ((0, 0), (0, 0)), ((0,), (0, 0, 0)), ((0,), (True, 0)), ((), (0, 0)),
                    ((0,), [0, 0]), [(0,), (0, 0)], ((0,), None), ((0,), (0, None)), (0, (0, 0)), ((0,), "00"), (), ((0,),), ((0,), (0, 0), (0,))]:
            for function in [bought, most_orders]:
                with self.subTest(function=function.__name__, bad=bad):
                    self.assertRaises(BadPrices, function, nest, bad, 1)
                    self.assertRaises(BadPrices, function, nest, bad, -1)
                    self.assertRaises(BadNest, function, (0, None), bad, -1)


if __name__ == "__main__":
    unittest.main()
