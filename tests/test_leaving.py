"""Lower ones leave (points 18 and 19)."""

import unittest
from itertools import permutations

from countdoors.errors import BadOrder, BadRow
from countdoors.leaving import (
    is_leaving, leave_count, leavers, leaving_nest, payments, ring_count, ring_payments, rounds, stays,
)
from countdoors.listing import all_orders
from countdoors.nests import last_numbers

from tests import rows

VALLEY = (9, 1, 2, 3, 4, 5, 6, 7, 8)


class Rows(unittest.TestCase):
    def test_small_rows(self):
        for row in rows.some_rows():
            with self.subTest(row=row):
                self.check(row)

    def check(self, row):
        ways = rows.leavings(row)
        _, left, paid = ways[0]
        for _, others, payed in ways:
            self.assertEqual((others, payed), (left, paid))
        places = tuple(sorted(paid, key=lambda place: row[place]))
        orders = sorted(order for order, _, _ in ways)
        self.assertEqual(stays(row), left)
        self.assertEqual(leavers(row), places)
        self.assertEqual(leaving_nest(row), rows.slow_nest(row, places))
        self.assertEqual(leave_count(row), len(orders))
        self.assertEqual(payments(row), tuple(paid.get(place) for place in range(len(row))))
        found = rows.slow_rounds(row)
        self.assertEqual(rounds(row), tuple(found.get(place) for place in range(len(row))))
        for order in permutations(places):
            self.assertIs(is_leaving(row, order), order in orders)
        self.check_nest(row, places, orders)

    def check_nest(self, row, places, orders):
        """Orders of leaving are those in which the doors of the nest open, each at last in its room."""
        nest = leaving_nest(row)
        if nest:
            opened = all_orders(nest, last_numbers(nest))
            self.assertEqual(sorted(tuple(places[door] for door in order) for order in opened), orders)

    def test_nobody_leaves(self):
        for row in [(0,), (99,), (0, 99), (99, 0), (1, 2, 3), (1, 3, 2), tuple(range(9)), (1, 3, 5, 7, 9, 8, 6, 4, 2)]:
            with self.subTest(row=row):
                self.assertEqual(stays(row), tuple(range(len(row))))
                self.assertEqual([leavers(row), leaving_nest(row), leave_count(row)], [(), (), 1])
                self.assertEqual([payments(row), rounds(row)], [(None,) * len(row)] * 2)
                self.assertIs(is_leaving(row, ()), True)
                self.assertRaises(BadOrder, is_leaving, row, (0,))
                self.assertRaises(BadOrder, is_leaving, row, None)

    def test_nine_people(self):
        self.assertEqual(stays(VALLEY), (0, 8))
        self.assertEqual(leaving_nest(VALLEY), (1, 2, 3, 4, 5, 6, None))
        self.assertEqual(leave_count(VALLEY), 1)
        self.assertEqual(rounds(VALLEY), (None, 1, 2, 3, 4, 5, 6, 7, None))
        self.assertEqual(payments(VALLEY), (None, 1, 1, 1, 1, 1, 1, 1, None))
        self.assertIs(is_leaving(VALLEY, (1, 2, 3, 4, 5, 6, 7)), True)
        self.assertIs(is_leaving(VALLEY, (2, 1, 3, 4, 5, 6, 7)), False)
        comb = (99, 0, 98, 1, 97, 2, 96, 3, 95)
        self.assertEqual([leavers(comb), leave_count(comb)], [(1, 3, 5, 7), 24])
        self.assertEqual(payments(comb), (None, 98, None, 96, None, 94, None, 92, None))

    def test_wrong_rows(self):
        for row in [(0, 100), (-1, 5), (1, 1), (5, 1, 5), (), tuple(range(10)), (True, 0), (1, None), [1, 2]]:
            for function in [stays, leavers, leaving_nest, leave_count, payments, rounds, ring_count, ring_payments]:
                self.assertRaises(BadRow, function, row)
            self.assertRaises(BadRow, is_leaving, row, ())

    def test_wrong_orders(self):
        row = (9, 2, 5, 1, 8, 3, 7)
        self.assertIs(is_leaving(row, (3, 1, 2, 5)), True)
        for order in [(), (1,), (3, 1, 2), (3, 1, 2, 5, 5), (3, 1, 2, 2), (3, 1, 2, 0), (0, 1, 2, 3, 4, 5, 6),
                      (3, 1, 2, 4), (3, True, 2, 5), [3, 1, 2, 5], (3, 1, 2, None), (3, 1, 2, "5"), (3, 1, 2, (5,)),
                      (3, 1, 2, -2), (3, 1, 2, 7), None, 4, True, "3125", {}, (3, 1, 2, []), (3, 1, 2, 5, 6)]:
            with self.subTest(order=order):
                self.assertRaises(BadOrder, is_leaving, row, order)


class Rings(unittest.TestCase):
    def test_small_rings(self):
        for ring in rows.some_rows():
            with self.subTest(ring=ring):
                ways = rows.leavings(ring, True)
                _, left, paid = ways[0]
                self.assertEqual(left, (ring.index(max(ring)),))
                for _, others, payed in ways:
                    self.assertEqual((others, payed), (left, paid))
                self.assertEqual(ring_count(ring), len(ways))
                self.assertEqual(ring_payments(ring), tuple(paid.get(place) for place in range(len(ring))))

    def test_edges(self):
        self.assertEqual([ring_count((7,)), ring_payments((7,))], [1, (None,)])
        self.assertEqual([ring_count((0, 99)), ring_payments((0, 99))], [1, (99, None)])
        self.assertEqual([ring_count((99, 0)), ring_payments((99, 0))], [1, (None, 99)])
        self.assertEqual([ring_count(VALLEY), ring_payments(VALLEY)], [1, (None,) + (1,) * 8])
        low = (1, 20, 2, 21, 3, 22, 4, 99, 5)
        # The one with 5 waits until the one with 1, behind it in the ring, has left.
        self.assertEqual(ring_payments(low), (4, 1, 18, 1, 18, 77, 18, None, 15))


if __name__ == "__main__":
    unittest.main()
