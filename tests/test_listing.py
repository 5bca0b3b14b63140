"""Numbers of orders, and numbers for more orders or doors (points 6 and 7)."""

import unittest
from itertools import permutations
from math import factorial

from countdoors.errors import BadIndex, BadNumbers, TooMany
from countdoors.listing import all_orders, closed_in, next_order, order_at, order_number, widened
from countdoors.nests import first_numbers, free_numbers, last_numbers, sizes
from countdoors.orders import order_count

from tests import brute

CHAIN_9 = (1, 2, 3, 4, 5, 6, 7, 8, None)
APART_9 = (None,) * 9


class OneByOne(unittest.TestCase):
    def test_small_nests(self):
        for nest, numbers in brute.houses():
            with self.subTest(nest=nest, numbers=numbers):
                orders = brute.orders_of(nest, numbers)
                self.assertEqual(all_orders(nest, numbers), orders)
                self.assertEqual([order_at(nest, numbers, index) for index in range(len(orders))], orders)
                for index in [-1, len(orders)]:
                    self.assertRaises(BadIndex, order_at, nest, numbers, index)
                for order in permutations(range(len(nest))):
                    number = orders.index(order) if order in orders else None
                    self.assertEqual(order_number(nest, numbers, order), number)
                    greater = [other for other in orders if other > order]
                    self.assertEqual(next_order(nest, numbers, order), greater[0] if greater else None)

    def test_one_door(self):
        nest, numbers = (None,), ((0,),)
        self.assertEqual([all_orders(nest, numbers), order_at(nest, numbers, 0)], [[(0,)], (0,)])
        self.assertEqual([order_number(nest, numbers, (0,)), next_order(nest, numbers, (0,))], [0, None])

    def test_no_order_allowed(self):
        for nest, numbers in [((None,), ((),)), ((1, None), ((0,), (2,))), (CHAIN_9, ((0,),) * 8 + ((),))]:
            with self.subTest(nest=nest, numbers=numbers):
                order = tuple(range(len(nest)))
                self.assertEqual(all_orders(nest, numbers), [])
                self.assertIsNone(order_number(nest, numbers, order))
                self.assertIsNone(next_order(nest, numbers, order))
                self.assertRaises(BadIndex, order_at, nest, numbers, 0)

    def test_nine_doors(self):
        last = factorial(9) - 1
        down = tuple(range(8, -1, -1))
        for nest in [CHAIN_9, APART_9, (2, 2, 8, 4, 5, 8, 7, 8, None)]:
            free = free_numbers(nest)
            self.assertEqual(order_at(nest, free, 0), tuple(range(9)))
            self.assertEqual(order_at(nest, free, last), down)
            self.assertRaises(BadIndex, order_at, nest, free, last + 1)
            self.assertEqual(order_number(nest, free, down), last)
            self.assertEqual(next_order(nest, free, (0, 1, 2, 3, 4, 8, 7, 6, 5)), (0, 1, 2, 3, 5, 4, 6, 7, 8))
            self.assertIsNone(next_order(nest, free, down))
        self.assertEqual(order_at(APART_9, first_numbers(APART_9), 12345), (0, 3, 5, 1, 8, 4, 6, 7, 2))

    def test_there_and_back(self):
        nest = (2, 2, 8, 4, 5, 8, 7, 8, None)
        numbers = ((0,), (0, 1), (0, 2), (0,), (1,), (0, 2, 3), (0, 3), (0, 1), (1, 4, 7, 8))
        many = order_count(nest, numbers)
        before = None
        for index in range(0, many, many // 50):
            order = order_at(nest, numbers, index)
            self.assertEqual(order_number(nest, numbers, order), index)
            self.assertTrue(before is None or before < order)
            before = order
            following = next_order(nest, numbers, order)
            if index + 1 < many:
                self.assertEqual(order_number(nest, numbers, following), index + 1)

    def test_next_of_orders_not_allowed(self):
        numbers = last_numbers(CHAIN_9)
        self.assertIsNone(next_order(CHAIN_9, numbers, (1, 0, 2, 3, 4, 5, 6, 7, 8)))
        self.assertIsNone(next_order(CHAIN_9, numbers, tuple(range(9))))
        zeros = first_numbers(CHAIN_9)
        self.assertEqual(next_order(CHAIN_9, zeros, tuple(range(9))), tuple(range(8, -1, -1)))

    def test_more_than_2000(self):
        numbers = ((0,), (0,), (2,), (3,), (0, 1, 2, 3, 4), (0, 1, 3, 4, 5), (0, 2, 3, 4, 5, 8), (0, 1, 2, 7), (0, 4, 5, 8))
        orders = all_orders(CHAIN_9, numbers)
        self.assertEqual([order_count(CHAIN_9, numbers), len(orders)], [2000, 2000])
        self.assertEqual(orders, sorted(set(orders)))
        wider = numbers[:3] + ((0, 3),) + numbers[4:]
        for nest, many in [(CHAIN_9, wider), (APART_9, ((0,),) * 9), ((None,) * 7, ((0,),) * 7)]:
            with self.assertRaises(TooMany) as caught:
                all_orders(nest, many)
            self.assertEqual(caught.exception.most, 2000)
        self.assertEqual(len(all_orders((None,) * 6, ((0,),) * 6)), 720)

    def test_lists_are_new(self):
        nest, numbers = (1, None), ((0,), (0, 1))
        all_orders(nest, numbers).clear()
        self.assertEqual(all_orders(nest, numbers), [(0, 1), (1, 0)])


class MoreNumbers(unittest.TestCase):
    def test_widened(self):
        nest, numbers = (2, 2, None), ((), (1, 3), (0, 8))
        self.assertEqual(widened(nest, numbers, 0, 4), ((4,), (1, 3), (0, 8)))
        self.assertEqual(widened(nest, numbers, 1, 0), ((), (0, 1, 3), (0, 8)))
        self.assertEqual(widened(nest, numbers, 1, 2), ((), (1, 2, 3), (0, 8)))
        self.assertEqual(widened(nest, numbers, 2, 7), ((), (1, 3), (0, 7, 8)))
        self.assertEqual(widened(nest, numbers, 1, 8), ((), (1, 3, 8), (0, 8)))
        self.assertEqual(widened((None,), ((),), 0, 0), ((0,),))

    def test_widened_by_a_number_that_it_has(self):
        numbers = ((), (1, 3), (0, 8))
        self.assertEqual(widened((2, 2, None), numbers, 1, 3), numbers)
        self.assertEqual(widened((2, 2, None), numbers, 2, 0), numbers)


class ClosedIn(unittest.TestCase):
    def test_closed_in(self):
        self.assertEqual(closed_in((None,), ((0,),), (1,)), ((1, None), ((0,), (1,))))
        self.assertEqual(closed_in((None, 2, None), ((), (0,), (1, 2)), ()), ((3, 2, 3, None), ((), (0,), (1, 2), ())))

    def test_orders_are_so_many_times_more(self):
        for nest, numbers in brute.houses(3):
            for some in [(), (0,), (0, 1), (1, 3, 8), tuple(range(9))]:
                with self.subTest(nest=nest, numbers=numbers, some=some):
                    outer, more = closed_in(nest, numbers, some)
                    size = len(nest) + 1
                    self.assertEqual(sizes(outer), (*sizes(nest), size))
                    self.assertEqual(more, (*numbers, some))
                    times = len([number for number in some if number < size])
                    self.assertEqual(order_count(outer, more), order_count(nest, numbers) * times)

    def test_nest_of_eight_and_of_nine(self):
        self.assertEqual(closed_in((None,) * 8, ((0,),) * 8, (8,)), ((8,) * 8 + (None,), ((0,),) * 8 + ((8,),)))
        with self.assertRaises(TooMany) as caught:
            closed_in(APART_9, ((0,),) * 9, (0,))
        self.assertEqual(caught.exception.most, 9)
        with self.assertRaises(BadNumbers) as caught:
            closed_in(APART_9, ((0,),) * 9, (9,))
        self.assertIsNone(caught.exception.index)


if __name__ == "__main__":
    unittest.main()
