"""Missing numbers (point 33)."""

import unittest
from itertools import chain, combinations, permutations, product

from countdoors.missing import least_missing, made_safe, mended, missing, orders_by_missing
from countdoors.nests import first_numbers, free_numbers, last_numbers, mixings
from countdoors.orders import allows
from countdoors.states import is_safe

from tests import brute

CHAIN_9 = (1, 2, 3, 4, 5, 6, 7, 8, None)
APART_9 = (None,) * 9
UP_9 = tuple(range(9))


def slow_missing(nest, numbers, order):
    row = brute.ranks_of(nest, order)
    return tuple((door, rank) for door, rank in enumerate(row) if rank not in numbers[door])


def is_slowly_safe(nest, numbers):
    met = [state for state in brute.all_states(nest) if brute.ways_between(nest, numbers, (), state)]
    return all(brute.ways_from(nest, numbers, state) for state in met)


def subsets(items):
    items = list(items)
    return list(chain.from_iterable(combinations(items, many) for many in range(len(items) + 1)))


class Missing(unittest.TestCase):
    def test_small_nests(self):
        for nest, numbers in brute.houses():
            self.check(nest, numbers)

    def test_five_doors(self):
        for nest in brute.all_nests(5)[::5]:
            self.check(nest, brute.some_numbers(nest, 1))
            self.check(nest, brute.full_numbers(nest, 1))

    def check(self, nest, numbers):
        many = len(nest)
        counts = [0] * (many + 1)
        found = []
        for order in permutations(range(many)):
            with self.subTest(nest=nest, numbers=numbers, order=order):
                lacking = slow_missing(nest, numbers, order)
                counts[len(lacking)] += 1
                found.append((len(lacking), order))
                self.assertEqual(missing(nest, numbers, order), lacking)
                more = tuple(tuple(sorted({*some, *[rank for other, rank in lacking if other == door]})) for door, some in enumerate(numbers))
                self.assertEqual(mended(nest, numbers, order), more)
                self.assertTrue(allows(nest, more, order))
        with self.subTest(nest=nest, numbers=numbers):
            self.assertEqual(orders_by_missing(nest, numbers), tuple(counts))
            self.assertEqual(least_missing(nest, numbers), min(found))
            safe = made_safe(nest, numbers)
            self.assertTrue(is_safe(nest, safe))
            self.assertTrue(all(set(some) <= set(more) for some, more in zip(numbers, safe)))

    def test_as_few_more_as_can_be(self):
        for nest, numbers in brute.houses(3, 2):
            more = [
                [tuple(sorted({*some, *others})) for others in subsets(set(range(4)) - set(some))]
                for some in numbers
            ]
            safe = [rows for rows in product(*more) if is_slowly_safe(nest, rows)]
            least = min(sum(map(len, rows)) for rows in safe)
            with self.subTest(nest=nest, numbers=numbers):
                self.assertEqual([rows for rows in safe if sum(map(len, rows)) == least], [made_safe(nest, numbers)])

    def test_safe_numbers_stay(self):
        for nest in [(None,), (2, 2, None), CHAIN_9, APART_9]:
            for numbers in [free_numbers(nest), last_numbers(nest), (UP_9,) * len(nest)]:
                self.assertEqual(made_safe(nest, numbers), numbers)

    def test_numbers_beyond_the_sizes_help_nobody(self):
        nest, numbers = (2, 2, None), ((1, 8), (0,), (3,))
        self.assertEqual([orders_by_missing(nest, numbers), least_missing(nest, numbers)], [(0, 0, 6, 0), (2, (0, 1, 2))])
        self.assertEqual(mended(nest, numbers, (1, 2, 0)), ((0, 1, 8), (0,), (1, 3)))
        self.assertEqual(made_safe(nest, numbers), ((0, 1, 8), (0,), (2, 3)))

    def test_one_door(self):
        self.assertEqual([missing((None,), ((),), (0,)), orders_by_missing((None,), ((),)), orders_by_missing((None,), ((0,),))], [((0, 0),), (0, 1), (1, 0)])
        self.assertEqual([mended((None,), ((5,),), (0,)), made_safe((None,), ((5,),)), made_safe((None,), ((0, 5),))], [((0, 5),)] * 3)
        self.assertEqual([least_missing((None,), ((),)), least_missing((None,), ((0,),))], [(1, (0,)), (0, (0,))])

    def test_nine_doors(self):
        down = UP_9[::-1]
        self.assertEqual(missing(CHAIN_9, last_numbers(CHAIN_9), down), tuple((door, 0) for door in range(1, 9)))
        self.assertEqual(mended(CHAIN_9, last_numbers(CHAIN_9), down), ((0,),) + tuple((0, door) for door in range(1, 9)))
        self.assertEqual(orders_by_missing(APART_9, ((),) * 9), (0,) * 9 + (362880,))
        self.assertEqual(orders_by_missing(APART_9, first_numbers(APART_9)), (362880,) + (0,) * 9)
        # How many orders have so many ranks that are not 0: the Stirling numbers.
        self.assertEqual(orders_by_missing(CHAIN_9, first_numbers(CHAIN_9)), (1, 36, 546, 4536, 22449, 67284, 118124, 109584, 40320, 0))
        self.assertEqual(sum(orders_by_missing(CHAIN_9, ((0, 5),) * 9)), 362880)
        self.assertEqual(orders_by_missing(CHAIN_9, last_numbers(CHAIN_9))[0], mixings(CHAIN_9))
        self.assertEqual(least_missing(CHAIN_9, ((),) * 9), (9, UP_9))
        self.assertEqual(least_missing(CHAIN_9, first_numbers(CHAIN_9)), (0, down))
        self.assertEqual(least_missing(CHAIN_9, ((8,),) * 8 + ((0,),)), (8, (8, 0, 1, 2, 3, 4, 5, 6, 7)))


if __name__ == "__main__":
    unittest.main()
