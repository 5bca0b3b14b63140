"""Orders beside one another (point 28)."""

import unittest
from itertools import combinations, permutations

from countdoors.errors import BadNumbers, BadOrder, TooMany
from countdoors.nests import free_numbers, last_numbers
from countdoors.orders import order_count
from countdoors.swapping import beside, joined_parts, swaps, to_allowed, turned_between

from tests import brute

CHAIN_9 = (1, 2, 3, 4, 5, 6, 7, 8, None)
APART_9 = (None,) * 9
UP_9 = tuple(range(9))
# 5 * 5 * 5 * 8 * 2 orders, and 4 * 7 * 8 * 9, the next number that is a product of such factors.
MANY_2000 = ((0,), (0,), (0,), (0,), UP_9[:5], (0, 1, 2, 3, 5), (1, 2, 3, 5, 6, 8), UP_9[:8], (0, 8))
MANY_2016 = ((0,), (1,), (0,), UP_9[:4], (4,), (0,), UP_9[:7], UP_9, UP_9)


def are_beside(one, other):
    """Whether just two doors that follow one another are exchanged."""
    places = [at for at in range(len(one)) if one[at] != other[at]]
    return len(places) == 2 and places[1] == places[0] + 1


def least_swaps(orders):
    """The dict of the least numbers of exchanges between all of some orders that are joined by ways."""
    table = {(order, order): 0 for order in orders}
    near = {order: [other for other in orders if are_beside(order, other)] for order in orders}
    for start in orders:
        level = [start]
        while level:
            further = []
            for order in level:
                for other in near[order]:
                    if (start, other) not in table:
                        table[start, other] = table[start, order] + 1
                        further.append(other)
            level = further
    return table


class Swapping(unittest.TestCase):
    @classmethod
    def setUpClass(cls):
        cls.free = {many: least_swaps(list(permutations(range(many)))) for many in range(1, 6)}

    def test_small_nests(self):
        for nest, numbers in brute.houses(3, 4):
            self.check(nest, numbers)
        for nest in brute.all_nests(4):
            self.check(nest, brute.some_numbers(nest, 3))
            self.check(nest, brute.full_numbers(nest, 3))
            self.check(nest, brute.full_numbers(nest, 7))

    def test_five_doors(self):
        for nest in brute.all_nests(5)[::30]:
            self.check(nest, brute.full_numbers(nest, 1), 11)

    def check(self, nest, numbers, step=1):
        orders = list(permutations(range(len(nest))))
        allowed = brute.orders_of(nest, numbers)
        table = least_swaps(allowed)
        parts = {}
        for one in allowed:
            part = [other for other in allowed if (one, other) in table]
            parts[part[0]] = len(part)
        with self.subTest(nest=nest, numbers=numbers):
            self.assertEqual(joined_parts(nest, numbers), tuple(sorted(parts.values())))
            for one in orders[::step]:
                self.assertEqual(beside(nest, numbers, one), tuple(other for other in allowed if are_beside(one, other)))
                near = min([(self.free[len(nest)][one, other], other) for other in allowed], default=None)
                self.assertEqual(to_allowed(nest, numbers, one), near)
                for other in orders[::step]:
                    self.assertEqual(swaps(nest, numbers, one, other), table.get((one, other)))

    def test_turned_pairs_are_exchanges(self):
        for many in range(1, 5):
            for nest in [(None,) * many, (*range(1, many), None)]:
                for (one, other), steps in self.free[many].items():
                    self.assertEqual(turned_between(nest, one, other), steps)
                    pairs = [pair for pair in combinations(range(many), 2)
                             if (one.index(pair[0]) < one.index(pair[1])) != (other.index(pair[0]) < other.index(pair[1]))]
                    self.assertEqual(len(pairs), steps)

    def test_the_same_order_twice(self):
        nest, numbers = (2, 2, None), ((0,), (0,), (1,))
        self.assertEqual([swaps(nest, numbers, (0, 2, 1), (0, 2, 1)), swaps(nest, numbers, (0, 1, 2), (0, 1, 2))], [0, None])
        self.assertEqual([to_allowed(nest, numbers, (1, 2, 0)), turned_between(nest, (1, 2, 0), (1, 2, 0))], [(0, (1, 2, 0)), 0])
        self.assertEqual([swaps(nest, numbers, (0, 1, 2), (0, 2, 1)), swaps(nest, numbers, (0, 2, 1), (0, 1, 2))], [None, None])

    def test_no_order_is_allowed(self):
        for nest in [(None,), (2, 2, None), CHAIN_9]:
            up = tuple(range(len(nest)))
            for numbers in [((),) * len(nest), ((0,),) * (len(nest) - 1) + ((),)]:
                self.assertEqual([beside(nest, numbers, up), joined_parts(nest, numbers)], [(), ()])
                self.assertEqual([swaps(nest, numbers, up, up), to_allowed(nest, numbers, up)], [None, None])

    def test_one_door(self):
        self.assertEqual([beside((None,), ((0,),), (0,)), joined_parts((None,), ((0,),))], [(), (1,)])
        self.assertEqual([swaps((None,), ((0,),), (0,), (0,)), to_allowed((None,), ((0,),), (0,))], [0, (0, (0,))])
        self.assertEqual(turned_between((None,), (0,), (0,)), 0)

    def test_nine_doors(self):
        self.assertEqual(turned_between(APART_9, UP_9, UP_9[::-1]), 36)
        self.assertEqual(to_allowed(CHAIN_9, last_numbers(CHAIN_9), UP_9[::-1]), (36, UP_9))
        self.assertEqual(beside(APART_9, ((0,),) * 9, UP_9)[0], (0, 1, 2, 3, 4, 5, 6, 8, 7))
        self.assertEqual(len(beside(APART_9, ((0,),) * 9, UP_9)), 8)
        numbers = ((0,),) * 7 + ((6, 7), (8,))
        self.assertEqual(joined_parts(CHAIN_9, numbers), (2,))
        self.assertEqual(swaps(CHAIN_9, numbers, (6, 5, 4, 3, 2, 1, 7, 0, 8), (6, 5, 4, 3, 2, 1, 0, 7, 8)), 1)

    def test_2000_orders_and_more(self):
        down = UP_9[::-1]
        # Door 6 alone cannot be the first one of the doors in its room.
        near = (8, 7, 5, 6, 4, 3, 2, 1, 0)
        self.assertEqual([order_count(CHAIN_9, MANY_2000), order_count(CHAIN_9, MANY_2016)], [2000, 2016])
        self.assertEqual(sum(joined_parts(CHAIN_9, MANY_2000)), 2000)
        self.assertEqual(to_allowed(CHAIN_9, MANY_2000, down), (1, near))
        self.assertEqual(swaps(CHAIN_9, MANY_2000, near, near[1:2] + near[:1] + near[2:]), None)
        self.assertEqual(swaps(CHAIN_9, MANY_2000, near, near[:3] + (4, 6) + near[5:]), 1)
        self.assertRaises(TooMany, joined_parts, CHAIN_9, MANY_2016)
        self.assertRaises(TooMany, to_allowed, CHAIN_9, MANY_2016, down)
        self.assertRaises(TooMany, swaps, CHAIN_9, MANY_2016, down, down)
        self.assertEqual(beside(CHAIN_9, free_numbers(CHAIN_9), down)[-1], (8, 7, 6, 5, 4, 3, 2, 0, 1))

    def test_too_many_behind_all_others(self):
        zeros = ((0,),) * 9
        for call in [(joined_parts, APART_9, zeros), (swaps, APART_9, zeros, UP_9, UP_9), (to_allowed, APART_9, zeros, UP_9)]:
            with self.assertRaises(TooMany) as caught:
                call[0](*call[1:])
            self.assertEqual(caught.exception.most, 2000)
        self.assertRaises(BadOrder, swaps, APART_9, zeros, UP_9, UP_9[1:])
        self.assertRaises(BadOrder, swaps, APART_9, zeros, 0, UP_9)
        self.assertRaises(BadOrder, to_allowed, APART_9, zeros, UP_9 + (9,))
        self.assertRaises(BadNumbers, joined_parts, APART_9, zeros[1:])
        # Also if the orders are not allowed, or one and the same.
        self.assertRaises(TooMany, swaps, CHAIN_9, ((0,),) * 2 + free_numbers(CHAIN_9)[2:], UP_9, UP_9)
        self.assertEqual(turned_between(APART_9, UP_9, UP_9), 0)


if __name__ == "__main__":
    unittest.main()
