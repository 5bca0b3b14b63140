"""Alike doors (point 29)."""

import unittest
from itertools import permutations, product

from countdoors.errors import BadPair
from countdoors.nests import free_numbers
from countdoors.renaming import alike_doors, are_alike, least_form, orders_alike, renamings

from tests import brute, wrong

CHAIN_9 = (1, 2, 3, 4, 5, 6, 7, 8, None)
APART_9 = (None,) * 9
UP_9 = tuple(range(9))


def some_houses(nest):
    """A nest with numbers of which many are the same."""
    yield nest, ((0,),) * len(nest)
    yield nest, tuple((door % 2, 3) for door in range(len(nest)))
    yield nest, ((0, 1),) + ((0,),) * (len(nest) - 1)
    for seed in range(3):
        yield nest, brute.some_numbers(nest, seed, 2)


def named_anew(nest, numbers, names):
    """The pair that doors make that are called names[door], None if it is no nest."""
    many = len(nest)
    outers, rows = [None] * many, [None] * many
    for door, name in enumerate(names):
        outers[name] = None if nest[door] is None else names[nest[door]]
        rows[name] = numbers[door]
    if any(outer is not None and outer <= name for name, outer in enumerate(outers)):
        return None
    return tuple(outers), tuple(rows)


def form_key(form):
    return tuple(len(form[0]) if outer is None else outer for outer in form[0]), form[1]


def slow_form(nest, numbers):
    forms = [named_anew(nest, numbers, names) for names in permutations(range(len(nest)))]
    return min((form for form in forms if form is not None), key=form_key)


def slow_renamings(nest, numbers):
    """All names by which the nest and the numbers stay what they are."""
    found = []
    for names in permutations(range(len(nest))):
        same = all(numbers[door] == numbers[names[door]] for door in range(len(nest)))
        at_once = all(
            (nest[one] == other) == (nest[names[one]] == names[other])
            for one, other in product(range(len(nest)), repeat=2)
        )
        if same and at_once:
            found.append(names)
    return found


class Renaming(unittest.TestCase):
    def test_small_nests(self):
        for many in range(1, 5):
            for nest in brute.all_nests(many):
                for _, numbers in some_houses(nest):
                    self.check(nest, numbers)
                self.check(nest, brute.full_numbers(nest, 1))

    def test_five_doors(self):
        for nest in brute.all_nests(5)[::3]:
            self.check(nest, ((0,),) * 5)
            self.check(nest, ((0,), (0, 1), (0,), (1, 2), (0,)))
            self.check(nest, ((3,), (), (0, 1), (), (2,)))

    def check(self, nest, numbers):
        with self.subTest(nest=nest, numbers=numbers):
            found = slow_renamings(nest, numbers)
            self.assertEqual(renamings(nest, numbers), len(found))
            alike = {tuple(sorted({names[door] for names in found})) for door in range(len(nest))}
            self.assertEqual(alike_doors(nest, numbers), tuple(sorted(alike)))
            self.assertEqual(least_form(nest, numbers), slow_form(nest, numbers))
            orders = brute.orders_of(nest, numbers)
            classes = {min(tuple(names[door] for door in order) for names in found) for order in orders}
            self.assertEqual(orders_alike(nest, numbers), len(classes))

    def test_are_alike(self):
        houses = [house for many in range(1, 4) for nest in brute.all_nests(many) for house in some_houses(nest)]
        forms = [slow_form(*house) for house in houses]
        for one, form in zip(houses, forms):
            for other, further in zip(houses, forms):
                with self.subTest(one=one, other=other):
                    self.assertIs(are_alike(one, other), form == further)

    def test_numbers_beyond_the_sizes_count(self):
        self.assertEqual(renamings((None, None), ((0,), (0, 5))), 1)
        self.assertIs(are_alike(((None,), ((0,),)), ((None,), ((0, 1),))), False)
        self.assertEqual(orders_alike((None, None), ((0,), (0, 5))), 2)

    def test_alike_rooms_in_unlike_ones(self):
        # Doors 0 and 1 have alike rooms, but those around them have other numbers.
        nest, numbers = (2, 3, None, None), ((0,), (0,), (0,), (1,))
        self.assertEqual([renamings(nest, numbers), alike_doors(nest, numbers)], [1, ((0,), (1,), (2,), (3,))])
        nest, numbers = (4, 4, 5, 5, None, None), ((0,),) * 6
        self.assertEqual([renamings(nest, numbers), alike_doors(nest, numbers)], [8, ((0, 1, 2, 3), (4, 5))])

    def test_a_nest_is_the_least_before_its_numbers(self):
        self.assertEqual(least_form((None, 2, None), ((), (8,), (0,))), ((1, None, None), ((8,), (0,), ())))
        self.assertEqual(least_form((None, None), ((1,), (0, 8))), ((None, None), ((0, 8), (1,))))

    def test_no_order_is_allowed(self):
        self.assertEqual([orders_alike((None,), ((),)), orders_alike((1, None), ((0,), (2,)))], [0, 0])
        self.assertEqual([renamings((None, None), ((), ())), alike_doors((None, None), ((), ()))], [2, ((0, 1),)])

    def test_one_door(self):
        self.assertEqual([renamings((None,), ((0,),)), least_form((None,), ((4,),))], [1, ((None,), ((4,),))])
        self.assertEqual([alike_doors((None,), ((0,),)), orders_alike((None,), ((0,),))], [((0,),), 1])

    def test_nine_doors(self):
        zeros = ((0,),) * 9
        self.assertEqual([renamings(APART_9, zeros), orders_alike(APART_9, zeros)], [362880, 1])
        self.assertEqual(alike_doors(APART_9, zeros), (UP_9,))
        down = tuple((8 - door,) for door in range(9))
        self.assertEqual(least_form(APART_9, down), (APART_9, down[::-1]))
        self.assertEqual(least_form(CHAIN_9, down), (CHAIN_9, down))
        self.assertEqual([renamings(CHAIN_9, zeros), orders_alike(CHAIN_9, free_numbers(CHAIN_9))], [1, 362880])
        pairs = (4, 5, 6, 7, None, None, None, None, None)
        self.assertEqual(least_form(pairs, zeros)[0], (1, None, 3, None, 5, None, 7, None, None))
        self.assertEqual([renamings(pairs, zeros), orders_alike(pairs, zeros)], [24, 945])
        self.assertEqual(alike_doors(pairs, zeros), ((0, 1, 2, 3), (4, 5, 6, 7), (8,)))
        self.assertIs(are_alike((pairs, zeros), ((1, None, None, 4, None, 6, None, 8, None), zeros)), True)
        self.assertIs(are_alike((pairs, zeros), (APART_9, zeros)), False)
        self.assertIs(are_alike((APART_9, zeros), ((None,) * 8, zeros[:8])), False)

    def test_wrong_pairs(self):
        right = ((2, 2, None), ((0,), (0,), (1,)))
        for value, _, _ in wrong.PAIRS:
            with self.subTest(value=value):
                self.assertRaises(BadPair, are_alike, value, right)
                self.assertRaises(BadPair, are_alike, right, value)
                self.assertRaises(BadPair, are_alike, value, value)


if __name__ == "__main__":
    unittest.main()
