"""All nests (point 36)."""

import unittest
from collections import Counter
from itertools import permutations
from math import factorial

from countdoors.allnests import mixings_in_all, nest_count, nests_by_depth, nests_by_rooms
from countdoors.errors import BadCount
from countdoors.nests import mixings

from tests import brute


def told(counts, first, many):
    return tuple(counts[at] for at in range(first, first + many))


def depth_rows(many):
    """How many nests there are by the sorted depths of their doors, each new door lying inside the old ones."""
    rows = Counter({(0,): 1})
    for _ in range(many - 1):
        longer = Counter()
        for row, times in rows.items():
            for depth in [0, *[around + 1 for around in row]]:
                longer[tuple(sorted((*row, depth)))] += times
        rows = longer
    return rows


class AllNests(unittest.TestCase):
    def test_all_of_few_doors(self):
        for many in range(1, 7):
            with self.subTest(many=many):
                nests = brute.all_nests(many)
                self.assertEqual(nest_count(many), len(nests))
                rooms = Counter(nest.count(None) for nest in nests)
                self.assertEqual(nests_by_rooms(many), told(rooms, 1, many))
                depths = Counter(max(len(brute.doors_around(nest, door)) for door in range(many)) for nest in nests)
                self.assertEqual(nests_by_depth(many), told(depths, 0, many))
                self.assertEqual(mixings_in_all(many), sum(mixings(nest) for nest in nests))

    def test_mixings_are_orders_with_the_same_ranks(self):
        for many in range(1, 5):
            pairs = [
                (nest, order) for nest in brute.all_nests(many) for order in permutations(range(many))
                if set(brute.ranks_of(nest, order)) == {0}
            ]
            self.assertEqual(mixings_in_all(many), len(pairs))

    def test_up_to_nine_doors(self):
        for many in range(1, 10):
            rows = depth_rows(many)
            self.assertEqual(nest_count(many), sum(rows.values()))
            depths, rooms = Counter(), Counter()
            for row, times in rows.items():
                depths[max(row)] += times
                rooms[row.count(0)] += times
            self.assertEqual([nests_by_depth(many), nests_by_rooms(many)], [told(depths, 0, many), told(rooms, 1, many)])

    def test_mixings_of_nine_doors(self):
        # Parted by which doors lie inside the room of the last one, as shares of all orders.
        totals = [1]
        for many in range(1, 10):
            total = 0
            for inner in range(many):
                lots = factorial(many - 1) // factorial(inner) // factorial(many - 1 - inner)
                mixed = factorial(many) // factorial(inner + 1) // factorial(many - 1 - inner)
                total += lots * mixed * totals[inner] * totals[many - 1 - inner]
            totals.append(total)
            self.assertEqual(mixings_in_all(many), total)

    def test_one_door(self):
        self.assertEqual([nest_count(1), nests_by_rooms(1), nests_by_depth(1), mixings_in_all(1)], [1, (1,), (1,), 1])

    def test_nine_doors(self):
        self.assertEqual(nest_count(9), 362880)
        self.assertEqual(nests_by_rooms(9), (40320, 109584, 118124, 67284, 22449, 4536, 546, 36, 1))
        self.assertEqual([nests_by_depth(9)[0], nests_by_depth(9)[8], len(nests_by_depth(9)), sum(nests_by_depth(9))], [1, 1, 9, 362880])

    def test_limits(self):
        for function in [nest_count, nests_by_rooms, nests_by_depth, mixings_in_all]:
            for value in [0, 10, -1, True, False, None, "9", (1,), [1], {}]:
                self.assertRaises(BadCount, function, value)


if __name__ == "__main__":
    unittest.main()
