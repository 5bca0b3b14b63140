"""All rows of the heights 1 to n (point 20)."""

import unittest
from fractions import Fraction
from itertools import permutations
from math import factorial

from countdoors.allrows import mean_paid, orders_in_all, rows_by_rounds, rows_by_stays
from countdoors.errors import BadCount

from tests import brute, rows


class AllRows(unittest.TestCase):
    def test_rows_one_by_one(self):
        for many in range(1, 7):
            by_stays, by_rounds = [0] * many, [0] * (many + 1)
            orders = paid = 0
            for row in permutations(range(1, many + 1)):
                ways = rows.leavings(row)
                orders += len(ways)
                by_stays[len(ways[0][1]) - 1] += 1
                paid += sum(ways[0][2].values())
                by_rounds[max(rows.slow_rounds(row).values(), default=0)] += 1
            with self.subTest(many=many):
                self.assertEqual(rows_by_stays(many), tuple(by_stays))
                self.assertEqual(rows_by_rounds(many), tuple(by_rounds))
                self.assertEqual(orders_in_all(many), orders)
                self.assertEqual(mean_paid(many), brute.ratio(paid, factorial(many)))

    def test_one_person(self):
        self.assertEqual([rows_by_stays(1), rows_by_rounds(1), orders_in_all(1), mean_paid(1)], [(1,), (1, 0), 1, (0, 1)])

    def test_nine_people(self):
        # Counted once by leaving in all 362880 rows, one by one.
        self.assertEqual(rows_by_stays(9), (0, 10080, 52272, 105056, 108304, 62720, 20608, 3584, 256))
        self.assertEqual(rows_by_rounds(9), (256, 32144, 127568, 124128, 60288, 16128, 2240, 128, 0, 0))
        self.assertEqual(orders_in_all(9), 3664128)
        self.assertEqual(mean_paid(9), (28, 3))

    def test_sums_and_means(self):
        for many in range(1, 10):
            with self.subTest(many=many):
                by_stays = rows_by_stays(many)
                self.assertEqual([sum(by_stays), sum(rows_by_rounds(many))], [factorial(many)] * 2)
                mean = Fraction(sum(stay * rows for stay, rows in enumerate(by_stays, 1)), factorial(many))
                self.assertEqual(mean, 2 * sum(Fraction(1, k) for k in range(1, many + 1)) - 1)

    def test_wrong_counts(self):
        for function in [rows_by_stays, rows_by_rounds, orders_in_all, mean_paid]:
            for n in [0, 10, -1, True, False, None, "3", (3,), [3], {}, 10 ** 40]:
                self.assertRaises(BadCount, function, n)


if __name__ == "__main__":
    unittest.main()
