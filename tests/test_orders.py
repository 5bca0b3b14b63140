"""Orders, ranks, and orders made of them (points 5 and 7)."""

import unittest
from itertools import permutations
from math import factorial

from countdoors.nests import first_numbers, free_numbers, last_numbers, mixings, sizes
from countdoors.orders import allows, order_count, order_inside, put_in, ranks, with_ranks

from tests import brute

CHAIN_9 = (1, 2, 3, 4, 5, 6, 7, 8, None)
APART_9 = (None,) * 9


class Ranks(unittest.TestCase):
    def test_by_definition(self):
        for many in range(1, 5):
            for nest in brute.all_nests(many):
                for order in permutations(range(many)):
                    with self.subTest(nest=nest, order=order):
                        self.assertEqual(ranks(nest, order), brute.ranks_of(nest, order))

    def test_nine_doors(self):
        self.assertEqual(ranks(CHAIN_9, tuple(range(9))), tuple(range(9)))
        self.assertEqual(ranks(CHAIN_9, tuple(range(8, -1, -1))), (0,) * 9)
        self.assertEqual(ranks(CHAIN_9, (4, 0, 8, 2, 6, 1, 3, 5, 7)), (0, 1, 1, 3, 0, 5, 3, 7, 2))
        self.assertEqual(ranks(APART_9, tuple(range(9))), (0,) * 9)

    def test_order_inside(self):
        self.assertEqual(order_inside((None,), (0,), 0), (0,))
        for many in range(1, 5):
            for nest in brute.all_nests(many):
                for order in permutations(range(many)):
                    for door in range(many):
                        kept = {door, *brute.doors_inside(nest, door)}
                        with self.subTest(nest=nest, order=order, door=door):
                            inner = tuple(other for other in order if other in kept)
                            self.assertEqual(order_inside(nest, order, door), inner)


class Allowed(unittest.TestCase):
    def test_all_orders_one_by_one(self):
        for nest, numbers in brute.houses():
            allowed = brute.orders_of(nest, numbers)
            with self.subTest(nest=nest, numbers=numbers):
                self.assertEqual(order_count(nest, numbers), len(allowed))
                for order in permutations(range(len(nest))):
                    self.assertIs(allows(nest, numbers, order), order in allowed)

    def test_without_numbers(self):
        self.assertIs(allows((None,), ((),), (0,)), False)
        self.assertEqual(order_count((None,), ((),)), 0)
        self.assertEqual(order_count((1, None), ((0,), ())), 0)

    def test_numbers_not_less_than_the_size(self):
        self.assertEqual(order_count((None,), ((1, 8),)), 0)
        self.assertEqual(order_count((None,), ((0, 8),)), 1)
        self.assertEqual(order_count((2, 2, None), ((0, 1), (0, 5), (2, 3, 8))), 2)
        self.assertIs(allows((1, None), ((0,), (2,)), (0, 1)), False)

    def test_one_door_and_nine(self):
        self.assertEqual(order_count((None,), ((0,),)), 1)
        self.assertIs(allows((None,), ((0,),), (0,)), True)
        for nest in [CHAIN_9, APART_9, (2, 2, 8, 4, 5, 8, 7, 8, None)]:
            self.assertEqual(order_count(nest, free_numbers(nest)), factorial(9))
            self.assertEqual(order_count(nest, last_numbers(nest)), mixings(nest))
            self.assertEqual(order_count(nest, first_numbers(nest)), mixings(nest))
        self.assertIs(allows(CHAIN_9, last_numbers(CHAIN_9), tuple(range(9))), True)
        self.assertIs(allows(CHAIN_9, last_numbers(CHAIN_9), (1, 0, 2, 3, 4, 5, 6, 7, 8)), False)

    def test_count_is_a_product(self):
        for nest, numbers in brute.houses():
            product = mixings(nest)
            for some, size in zip(numbers, sizes(nest)):
                product *= len([number for number in some if number < size])
            self.assertEqual(order_count(nest, numbers), product)


class Made(unittest.TestCase):
    def test_with_ranks(self):
        for many in range(1, 6):
            for nest in brute.all_nests(many)[::1 if many < 5 else 7]:
                least, counts = {}, {}
                for order in permutations(range(many)):
                    some = brute.ranks_of(nest, order)
                    least.setdefault(some, order)
                    counts[some] = counts.get(some, 0) + 1
                for some, order in least.items():
                    with self.subTest(nest=nest, some=some):
                        self.assertEqual(with_ranks(nest, some), order)
                        self.assertEqual(counts[some], mixings(nest))

    def test_with_ranks_of_nine(self):
        self.assertEqual(with_ranks(CHAIN_9, tuple(range(9))), tuple(range(9)))
        self.assertEqual(with_ranks(CHAIN_9, (0,) * 9), tuple(range(8, -1, -1)))
        self.assertEqual(with_ranks(CHAIN_9, (0, 1, 1, 3, 0, 5, 3, 7, 2)), (4, 0, 8, 2, 6, 1, 3, 5, 7))
        self.assertEqual(with_ranks(APART_9, (0,) * 9), tuple(range(9)))

    def test_put_in(self):
        for many in range(1, 5):
            for nest in brute.all_nests(many):
                for order in permutations(range(many)):
                    for door in range(many):
                        for rank in range(len(brute.doors_inside(nest, door)) + 1):
                            with self.subTest(nest=nest, order=order, door=door, rank=rank):
                                self.assertEqual(put_in(nest, order, door, rank), slow_put_in(nest, order, door, rank))

    def test_put_in_as_early_as_it_can(self):
        nest = (4, 4, None, None, None)
        self.assertEqual(put_in(nest, (2, 0, 3, 1, 4), 4, 0), (4, 2, 0, 3, 1))
        self.assertEqual(put_in(nest, (2, 0, 3, 1, 4), 4, 1), (2, 0, 4, 3, 1))
        self.assertEqual(put_in(nest, (4, 2, 0, 3, 1), 4, 2), (2, 0, 3, 1, 4))
        self.assertEqual(put_in(nest, (4, 2, 0, 3, 1), 1, 0), (1, 4, 2, 0, 3))
        self.assertEqual(put_in((None,), (0,), 0, 0), (0,))


def slow_put_in(nest, order, door, rank):
    others = [other for other in order if other != door]
    for at in range(len(order)):
        moved = (*others[:at], door, *others[at:])
        if brute.rank_in(nest, moved, door) == rank:
            return moved
    return None


if __name__ == "__main__":
    unittest.main()
