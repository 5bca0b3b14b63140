"""Numbers told by orders (points 12 and 13)."""

import unittest
from itertools import combinations, permutations
from random import Random

from countdoors.errors import BadTold
from countdoors.telling import (
    least_numbers, parting, parting_doors, shows_third, third_order, told_count,
)

from tests import brute, wrong

CHAIN_9 = (1, 2, 3, 4, 5, 6, 7, 8, None)


def some_told(many):
    """Told orders of nests of so many doors: all of up to 2 orders, or some of up to 12."""
    orders = list(permutations(range(many)))
    if many < 4:
        yield from ([told for most in range(1, 7) for told in combinations(orders, most)])
        return
    source = Random(f"told {many}")
    for most in [1, 1, 2, 2, 3, 4, 6, 11, 12]:
        yield tuple(sorted(source.sample(orders, most)))


def slow_least(nest, told):
    rows = [brute.ranks_of(nest, order) for order in told]
    return tuple(tuple(sorted({row[door] for row in rows})) for door in range(len(nest)))


class Told(unittest.TestCase):
    def test_small_nests(self):
        for many in range(1, 5):
            for nest in brute.all_nests(many):
                for told in some_told(many):
                    with self.subTest(nest=nest, told=told):
                        self.check(nest, told)

    def check(self, nest, told):
        numbers = slow_least(nest, told)
        allowed = brute.orders_of(nest, numbers)
        self.assertEqual(least_numbers(nest, told), numbers)
        self.assertEqual(told_count(nest, told), len(allowed))
        third = third_order(nest, told)
        self.assertIs(third is None, len(allowed) == len(told))
        self.assertIs(shows_third(nest, told, third), True)
        self.assertIs(shows_third(nest, told, None), len(allowed) == len(told))
        for order in permutations(range(len(nest))):
            self.assertIs(shows_third(nest, told, order), order in allowed and order not in told)

    def test_all_are_told(self):
        for nest, told in [((None,), ((0,),)), (CHAIN_9, ((4, 0, 8, 2, 6, 1, 3, 5, 7),)),
                           ((None, None), ((0, 1), (1, 0))), ((1, None), ((0, 1), (1, 0)))]:
            with self.subTest(nest=nest, told=told):
                self.assertEqual(told_count(nest, told), len(told))
                self.assertIsNone(third_order(nest, told))
                self.assertIs(shows_third(nest, told, None), True)
                self.assertIs(shows_third(nest, told, told[0]), False)

    def test_twelve_and_thirteen(self):
        orders = list(permutations(range(4)))
        for nest in [(None,) * 4, (1, 2, 3, None), (3, 3, 3, None)]:
            self.check(nest, tuple(orders[:12]))
            self.check(nest, tuple(orders[12:]))
            for function in [least_numbers, told_count, third_order]:
                self.assertRaises(BadTold, function, nest, tuple(orders[:13]))
            self.assertRaises(BadTold, shows_third, nest, tuple(orders[:13]), None)
            one = (orders[0],)
            for function in [parting, parting_doors]:
                self.assertRaises(BadTold, function, nest, tuple(orders[:13]), one)
                self.assertRaises(BadTold, function, nest, one, tuple(orders[:13]))

    def test_nine_doors(self):
        up, down = tuple(range(9)), tuple(range(8, -1, -1))
        self.assertEqual(least_numbers(CHAIN_9, (up, down)), ((0,),) + tuple((0, rank) for rank in range(1, 9)))
        self.assertEqual(told_count(CHAIN_9, (up, down)), 256)
        third = third_order(CHAIN_9, (up, down))
        self.assertIs(shows_third(CHAIN_9, (up, down), third), True)
        self.assertNotIn(third, (up, down))

    def test_shows_third_takes_every_value(self):
        nest = (2, 2, None)
        for told in [((0, 1, 2), (0, 2, 1)), ((0, 1, 2),)]:
            for value in [*wrong.NO_ANSWERS, *told]:
                with self.subTest(told=told, value=value):
                    self.assertIs(shows_third(nest, told, value), False)


class Parting(unittest.TestCase):
    def test_small_nests(self):
        for many in range(1, 5):
            rows = list(some_told(many))
            for nest in brute.all_nests(many):
                source = Random(f"{nest} parting")
                for yes in rows if many < 4 else source.sample(rows, 4):
                    for no in source.sample(rows, min(4, len(rows))):
                        with self.subTest(nest=nest, yes=yes, no=no):
                            self.check(nest, yes, no)

    def check(self, nest, yes, no):
        numbers = slow_least(nest, yes)
        rows = [brute.ranks_of(nest, order) for order in no]
        doors = tuple(tuple(door for door, rank in enumerate(row) if rank not in numbers[door]) for row in rows)
        self.assertEqual(parting_doors(nest, yes, no), doors)
        self.assertEqual(parting(nest, yes, no), numbers if all(doors) else None)

    def test_edges(self):
        nest, up, down = (2, 2, None), (0, 1, 2), (2, 1, 0)
        self.assertIsNone(parting(nest, (up,), (up,)))
        self.assertEqual(parting_doors(nest, (up,), (up, down)), ((), (2,)))
        self.assertIsNone(parting(nest, (up,), (up, down)))
        self.assertEqual(parting(nest, (up,), (down,)), ((0,), (0,), (2,)))
        self.assertEqual(parting_doors((None,), ((0,),), ((0,),)), ((),))
        # Not told, but allowed by the same numbers.
        self.assertIsNone(parting(nest, (up,), ((1, 0, 2),)))
        self.assertEqual(parting_doors((1, 2, None), (up,), ((1, 2, 0), (2, 0, 1))), ((1, 2), (2,)))


if __name__ == "__main__":
    unittest.main()
