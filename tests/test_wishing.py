"""Numbers with a wished count of orders, and coverings (points 14 and 15)."""

import unittest
from collections import Counter
from itertools import chain, combinations, permutations, product
from math import factorial

from countdoors.errors import BadCount
from countdoors.nests import free_numbers, last_numbers
from countdoors.telling import least_numbers
from countdoors.wishing import covering, numbers_with, shows_covering, shows_numbers_with

from tests import brute, wrong

CHAIN_9 = (1, 2, 3, 4, 5, 6, 7, 8, None)
APART_9 = (None,) * 9


def subsets(items):
    items = list(items)
    return list(chain.from_iterable(combinations(items, many) for many in range(len(items) + 1)))


def counts_of(nest):
    """The dict of the counts of orders that all numbers less than the sizes allow."""
    rows = Counter(brute.ranks_of(nest, order) for order in permutations(range(len(nest))))
    choices = [subsets(range(len(brute.doors_inside(nest, door)) + 1)) for door in range(len(nest))]
    return {
        numbers: sum(many for row, many in rows.items() if all(rank in some for rank, some in zip(row, numbers)))
        for numbers in product(*choices)
    }


def slow_kept(nest, numbers):
    return tuple(
        tuple(number for number in some if number <= len(brute.doors_inside(nest, door)))
        for door, some in enumerate(numbers)
    )


def covers(nest, numbers, orders):
    """Whether the least numbers of some orders are the kept numbers."""
    rows = [brute.ranks_of(nest, order) for order in orders]
    return slow_kept(nest, numbers) == tuple(tuple(sorted({row[door] for row in rows})) for door in range(len(nest)))


def is_told(nest, value):
    return type(value) is tuple and all(brute.is_order(nest, order) for order in value) and brute.ascends(value)


class NumbersWith(unittest.TestCase):
    def test_small_nests(self):
        for many in range(1, 5):
            for nest in brute.all_nests(many):
                table = counts_of(nest)
                there = set(table.values())
                for count in range(1, factorial(many) + 3):
                    with self.subTest(nest=nest, count=count):
                        found = numbers_with(nest, count)
                        if count in there:
                            self.assertEqual(table[found], count)
                        else:
                            self.assertIsNone(found)
                        self.assertIs(shows_numbers_with(nest, count, found), True)
                        self.assertIs(shows_numbers_with(nest, count, None), count not in there)

    def test_all_numbers_are_judged(self):
        for nest in [(None,), (None, None), (1, None), (2, 2, None), (1, 2, None), (None, 2, None)]:
            table = counts_of(nest)
            for count in range(1, 7):
                for numbers in product(subsets(range(4)), repeat=len(nest)):
                    with self.subTest(nest=nest, count=count, numbers=numbers):
                        self.assertIs(shows_numbers_with(nest, count, numbers), table.get(numbers) == count)

    def test_five_doors(self):
        for nest in brute.all_nests(5)[::7]:
            table = counts_of(nest)
            there = set(table.values())
            for count in range(1, 125):
                found = numbers_with(nest, count)
                self.assertEqual(None if found is None else table[found], count if count in there else None)

    def test_bent_values(self):
        for nest, count in [((2, 2, None), 4), ((1, 2, None), 4), ((1, 2, None), 5), ((None,), 1), ((None,), 2)]:
            found = numbers_with(nest, count)
            table = counts_of(nest)
            for value in [*wrong.bends(found), *wrong.NO_ANSWERS]:
                with self.subTest(nest=nest, count=count, value=value):
                    # Numbers of other kinds of values may be equal to right ones: ask for these kinds, too.
                    right = (value is None and found is None) or (
                        "True" not in repr(value) and "False" not in repr(value) and type(value) is tuple
                        and any(value == numbers for numbers in table) and table[value] == count
                    )
                    self.assertIs(shows_numbers_with(nest, count, value), right)

    def test_nine_doors(self):
        most = factorial(9)
        self.assertEqual(numbers_with(APART_9, most), ((0,),) * 9)
        self.assertEqual(numbers_with(CHAIN_9, most), free_numbers(CHAIN_9))
        self.assertEqual([numbers_with(APART_9, count) for count in (1, most - 1, 2 * most, 1000000)], [None] * 4)
        self.assertEqual([numbers_with(CHAIN_9, count) for count in (11, 2 * most, 999999, 1000000)], [None] * 4)
        for count in [1, 2, 7, 8, 9, 35, 1024, 5040, 40320, 120960]:
            self.assertIs(shows_numbers_with(CHAIN_9, count, numbers_with(CHAIN_9, count)), True)
            self.assertIs(shows_numbers_with(CHAIN_9, count, None), False)
        self.assertIs(shows_numbers_with(CHAIN_9, 1, last_numbers(CHAIN_9)), True)
        self.assertIs(shows_numbers_with(CHAIN_9, 1, ((0,),) * 8 + ((9,),)), False)

    def test_limits_of_counts(self):
        for nest in [(None,), CHAIN_9]:
            for count in [0, 1000001, -1, True, None, "1", (1,)]:
                self.assertRaises(BadCount, numbers_with, nest, count)
                self.assertRaises(BadCount, shows_numbers_with, nest, count, None)
        self.assertEqual([numbers_with((None,), 1), numbers_with((None,), 1000000)], [((0,),), None])
        self.assertIs(shows_numbers_with((None,), 1000000, None), True)


class Covering(unittest.TestCase):
    def test_small_nests(self):
        for nest, numbers in brute.houses(4):
            with self.subTest(nest=nest, numbers=numbers):
                allowed = brute.orders_of(nest, numbers)
                found = covering(nest, numbers)
                self.assertIs(shows_covering(nest, numbers, found), True)
                self.assertIs(shows_covering(nest, numbers, None), not allowed)
                if not allowed:
                    self.assertIsNone(found)
                    self.assertIs(shows_covering(nest, numbers, ()), False)
                    continue
                self.assertTrue(is_told(nest, found))
                self.assertTrue(covers(nest, numbers, found))
                self.assertEqual(len(found), max(len(some) for some in slow_kept(nest, numbers)))

    def test_as_few_as_can_be(self):
        for nest, numbers in brute.houses(3):
            orders = list(permutations(range(len(nest))))
            told = [some for some in subsets(orders) if covers(nest, numbers, some)]
            least = min([len(some) for some in told if some], default=None)
            for some in subsets(orders):
                with self.subTest(nest=nest, numbers=numbers, some=some):
                    right = least is not None and some in told and len(some) == least
                    self.assertIs(shows_covering(nest, numbers, some), right)
            found = covering(nest, numbers)
            self.assertEqual(None if found is None else len(found), least)

    def test_bent_values(self):
        for nest, numbers in [((1, 2, None), ((0,), (0, 1), (0, 2))), ((2, 2, None), ((0,), (0,), (1, 5))),
                              ((None,), ((0,),)), ((None,), ((1,),)), ((1, None), ((0, 1, 2), (0, 1, 2)))]:
            found = covering(nest, numbers)
            least = len(found) if found else None
            for value in [*wrong.bends(found), *wrong.NO_ANSWERS]:
                with self.subTest(nest=nest, numbers=numbers, value=value):
                    right = (value is None and found is None) or (
                        is_told(nest, value) and len(value) == least and covers(nest, numbers, value)
                    )
                    self.assertIs(shows_covering(nest, numbers, value), right)

    def test_nine_doors(self):
        free = free_numbers(CHAIN_9)
        found = covering(CHAIN_9, free)
        self.assertEqual([len(found), least_numbers(CHAIN_9, found)], [9, free])
        self.assertIs(shows_covering(CHAIN_9, free, found), True)
        self.assertIs(shows_covering(CHAIN_9, free, found[:8]), False)
        self.assertEqual(covering(CHAIN_9, last_numbers(CHAIN_9)), (tuple(range(9)),))
        self.assertIsNone(covering(CHAIN_9, ((0,),) * 8 + ((),)))
        self.assertEqual(covering(APART_9, ((0, 8),) * 9), (tuple(range(9)),))
        self.assertIs(shows_covering(APART_9, ((0,),) * 9, ((8, 7, 6, 5, 4, 3, 2, 1, 0),)), True)
        self.assertIsNone(covering(APART_9, ((8,),) * 9))


if __name__ == "__main__":
    unittest.main()
