"""Numbers of both sides (points 21 and 22)."""

import unittest
from itertools import combinations, permutations
from math import factorial, prod
from random import Random

from countdoors.errors import BadOrder, BadSides, BadState, BadTold
from countdoors.orders import order_count
from countdoors.sides import (
    rows_as_nests, side_count, side_ends, side_numbers, side_order, side_ready, turned_pairs, wide_sides,
)

from tests import brute

FREE_9 = (tuple(range(9)),) * 9
UP_9 = tuple(range(9))


def some_side(source, many):
    return tuple(tuple(number for number in range(many + 1) if source.random() < 0.8) for _ in range(many))


def some_sides():
    """Pairs of lefts and rights of 1 to 5 doors, by seeds."""
    for many in range(1, 6):
        source = Random(f"sides {many}")
        for _ in range(40):
            yield some_side(source, many), some_side(source, many)


def numbers_in(order, door):
    """How many doors to the left and to the right of a door stand before it."""
    ahead = order[:order.index(door)]
    return len([other for other in ahead if other < door]), len([other for other in ahead if other > door])


def side_ready_slowly(lefts, rights, state):
    found = []
    for door in range(len(lefts)):
        left, right = [other for other in state if other < door], [other for other in state if other > door]
        if door not in state and len(left) in lefts[door] and len(right) in rights[door]:
            found.append(door)
    return tuple(found)


def orders_of(lefts, rights):
    return [
        order for order in permutations(range(len(lefts)))
        if all(numbers_in(order, door)[0] in lefts[door] and numbers_in(order, door)[1] in rights[door] for door in order)
    ]


def ends_of(lefts, rights):
    """The states in which no door is ready, by opening in all ways."""
    def go(state):
        doors = side_ready_slowly(lefts, rights, state)
        if not doors:
            found.add(state)
        for door in doors:
            go(brute.further(state, door))
    found = set()
    go(())
    return tuple(sorted(found))


class Sides(unittest.TestCase):
    def test_small_rows(self):
        allowed = 0
        for lefts, rights in some_sides():
            with self.subTest(lefts=lefts, rights=rights):
                orders = orders_of(lefts, rights)
                allowed += len(orders)
                self.assertEqual(side_count(lefts, rights), len(orders))
                self.assertEqual(side_order(lefts, rights), orders[0] if orders else None)
                self.assertEqual(side_ends(lefts, rights), ends_of(lefts, rights))
                for state in brute.all_states(lefts):
                    self.assertEqual(side_ready(lefts, rights, state), side_ready_slowly(lefts, rights, state))
        self.assertGreater(allowed, 300)

    def test_numbers_of_one_order(self):
        for many in range(1, 6):
            for order in permutations(range(many)):
                with self.subTest(order=order):
                    pairs = [numbers_in(order, door) for door in range(many)]
                    lefts, rights = tuple((left,) for left, _ in pairs), tuple((right,) for _, right in pairs)
                    self.assertEqual(side_numbers(order), (lefts, rights))
                    self.assertEqual([side_count(lefts, rights), side_order(lefts, rights)], [1, order])
                    self.assertEqual(side_ends(lefts, rights), (tuple(range(many)),))
                    turned = len([1 for one, other in combinations(order, 2) if one > other])
                    self.assertEqual(turned_pairs(order), turned)

    def test_one_door(self):
        self.assertEqual([side_count(((0,),), ((0,),)), side_order(((0,),), ((0,),))], [1, (0,)])
        self.assertEqual([side_count(((0,),), ((),)), side_order(((),), ((0,),)), side_order(((1,),), ((0,),))], [0, None, None])
        self.assertEqual([side_ends(((0, 8),), ((0,),)), side_ends(((0,),), ((1,),))], [((0,),), ((),)])
        self.assertEqual([side_ready(((0,),), ((0,),), ()), side_ready(((0,),), ((0,),), (0,))], [(0,), ()])
        self.assertEqual([side_numbers((0,)), turned_pairs((0,)), rows_as_nests(((3, 8),))], [(((0,),), ((0,),)), 0, ((None,), ((3, 8),))])

    def test_nine_doors(self):
        self.assertEqual([side_count(FREE_9, FREE_9), side_order(FREE_9, FREE_9)], [factorial(9), UP_9])
        self.assertEqual(side_ends(FREE_9, FREE_9), (UP_9,))
        down = UP_9[::-1]
        self.assertEqual(side_numbers(down), (((0,),) * 9, tuple((8 - door,) for door in range(9))))
        self.assertEqual([turned_pairs(UP_9), turned_pairs(down)], [0, 36])
        self.assertEqual(side_order(*side_numbers(down)), down)
        self.assertEqual(side_ready(FREE_9, ((0,),) * 9, (3, 5)), (6, 7, 8))
        self.assertEqual(side_ready(((0,),) * 9, FREE_9, (3, 5)), (0, 1, 2))
        nothing = ((8,),) * 9
        self.assertEqual([side_count(FREE_9, nothing), side_order(nothing, FREE_9)], [0, None])
        self.assertEqual(side_ends(nothing, FREE_9), ((),))
        self.assertEqual(side_ends(FREE_9, ((0,),) * 9)[0], UP_9)

    def test_rows_as_nests(self):
        for lefts, _ in some_sides():
            free = (tuple(range(9)),) * len(lefts)
            nest, numbers = rows_as_nests(lefts)
            self.assertEqual(nest, tuple(range(1, len(lefts))) + (None,))
            self.assertEqual(numbers, lefts)
            many = prod(len([number for number in some if number <= door]) for door, some in enumerate(lefts))
            self.assertEqual([side_count(lefts, free), order_count(nest, numbers)], [many, many])
        self.assertEqual(rows_as_nests(FREE_9)[0], (1, 2, 3, 4, 5, 6, 7, 8, None))


class WideSides(unittest.TestCase):
    def test_small_rows(self):
        for lefts, rights in some_sides():
            source = Random(f"{lefts} {rights}")
            all_orders = list(permutations(range(len(lefts))))
            for most in (1, 2, 5, 12):
                orders = tuple(sorted(source.sample(all_orders, min(most, len(all_orders)))))
                with self.subTest(lefts=lefts, rights=rights, orders=orders):
                    wide = wide_sides(lefts, rights, orders)
                    for side, old, which in zip(wide, (lefts, rights), (0, 1)):
                        for door, some in enumerate(side):
                            new = {numbers_in(order, door)[which] for order in orders}
                            self.assertEqual(some, tuple(sorted(set(old[door]) | new)))
                    self.assertLessEqual(set(orders), set(orders_of(*wide)))

    def test_orders_that_are_allowed_already(self):
        for lefts, rights in some_sides():
            orders = tuple(orders_of(lefts, rights)[:12])
            if orders:
                self.assertEqual(wide_sides(lefts, rights, orders), (lefts, rights))

    def test_nothing_before(self):
        none = ((),) * 3
        self.assertEqual(wide_sides(none, none, ((2, 0, 1),)), side_numbers((2, 0, 1)))
        self.assertEqual(wide_sides(((8,),), ((),), ((0,),)), (((0, 8),), ((0,),)))

    def test_twelve_and_thirteen(self):
        orders = tuple(permutations(range(4)))
        none = ((),) * 4
        self.assertEqual(side_order(*wide_sides(none, none, orders[:12])), (0, 1, 2, 3))
        self.assertRaises(BadTold, wide_sides, none, none, orders[:13])
        self.assertRaises(BadTold, wide_sides, none, none, ())
        self.assertRaises(BadTold, wide_sides, none, none, orders[:2][::-1])
        self.assertRaises(BadTold, wide_sides, none, none, ((0, 1, 2),))


class WrongSides(unittest.TestCase):
    def index(self, function, *values):
        with self.assertRaises(BadSides) as caught:
            function(*values)
        return caught.exception.index

    def test_rights_of_another_number(self):
        one, two = ((0,),), ((0,), (0,))
        for lefts, rights in [(one, two), (two, one), (one, ()), (one, ((9,), (0,))), (one, [(0,)]), (FREE_9, FREE_9 + one)]:
            self.assertIsNone(self.index(side_count, lefts, rights))
            self.assertIsNone(self.index(side_ready, lefts, rights, None))
            self.assertIsNone(self.index(wide_sides, lefts, rights, None))

    def test_lefts_first(self):
        bad_left, bad_right = ((0,), (0,), (9,)), ((9,), (0,), (0,))
        self.assertEqual(self.index(side_order, bad_left, bad_right), 2)
        self.assertEqual(self.index(side_ends, bad_left, None), 2)
        self.assertEqual(self.index(side_ends, bad_left, bad_right[:1]), 2)
        self.assertEqual(self.index(side_order, ((0,),) * 3, bad_right), 0)
        self.assertEqual(self.index(side_order, ((0,),) * 3, ((0,), (1, 1), (9,))), 1)
        self.assertIsNone(self.index(side_count, ((0,),) * 10, ((0,),) * 10))
        self.assertIsNone(self.index(rows_as_nests, ()))
        self.assertEqual(self.index(rows_as_nests, bad_left), 2)

    def test_states_and_orders(self):
        two = ((0,), (0,))
        for state in [(2,), (1, 0), (0, 0), None, [0], (True,)]:
            self.assertRaises(BadState, side_ready, two, two, state)
        for order in [(), (1,), (0, 0), (0, 2), tuple(range(10)), [0], None, (True, 0), (0, "1"), ((0,),), 3, "01"]:
            self.assertRaises(BadOrder, side_numbers, order)
            self.assertRaises(BadOrder, turned_pairs, order)


if __name__ == "__main__":
    unittest.main()
