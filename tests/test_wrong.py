"""Wrong arguments: each one's error, the leftmost one's first, nothing changed (point 1 and the others)."""

import copy
import unittest

from countdoors import errors, nests, nesttext, orders

from tests import wrong

NEST = wrong.NEST
SOME = ((0,), (0,), (0, 1))
ORDER = (0, 2, 1)
# For each function the kinds of its arguments: a right value and wrong ones.
NEST_ARG = (NEST, wrong.NESTS)
NUMBERS_ARG = (SOME, wrong.NUMBERS)
ORDER_ARG = (ORDER, wrong.ORDERS)
DOOR_ARG = (2, wrong.DOORS)
CALLS = [
    (nests.inside, [NEST_ARG, DOOR_ARG]),
    (nests.around, [NEST_ARG, DOOR_ARG]),
    (nests.at_once, [NEST_ARG, (2, wrong.INNER)]),
    (nests.sizes, [NEST_ARG]),
    (nests.depths, [NEST_ARG]),
    (nests.mixings, [NEST_ARG]),
    (nests.free_numbers, [NEST_ARG]),
    (nests.last_numbers, [NEST_ARG]),
    (nests.first_numbers, [NEST_ARG]),
    (nests.kept_numbers, [NEST_ARG, NUMBERS_ARG]),
    (nesttext.write_nest, [NEST_ARG, NUMBERS_ARG]),
    (nesttext.read_nest, [("2:0; 2:0; -:0 1", wrong.TEXTS)]),
    (orders.ranks, [NEST_ARG, ORDER_ARG]),
    (orders.order_inside, [NEST_ARG, ORDER_ARG, DOOR_ARG]),
    (orders.allows, [NEST_ARG, NUMBERS_ARG, ORDER_ARG]),
    (orders.order_count, [NEST_ARG, NUMBERS_ARG]),
    (orders.with_ranks, [NEST_ARG, ((0, 0, 2), wrong.RANKS)]),
    (orders.put_in, [NEST_ARG, ORDER_ARG, DOOR_ARG, (1, wrong.RANK_OF_2)]),
]


class Wrong(unittest.TestCase):
    def expect(self, function, values, name, fields):
        before = copy.deepcopy(values)
        with self.subTest(function=function.__name__, values=values):
            with self.assertRaises(errors.DoorError) as caught:
                function(*values)
            self.assertEqual(type(caught.exception).__name__, name)
            self.assertEqual(vars(caught.exception), fields)
            self.assertEqual(list(map(type, vars(caught.exception).values())), list(map(type, fields.values())))
            self.assertEqual(values, before)

    def test_right_ones_raise_nothing(self):
        for function, arguments in CALLS:
            with self.subTest(function.__name__):
                function(*[right for right, _ in arguments])

    def test_each_argument(self):
        for function, arguments in CALLS:
            for at, (_, wrongs) in enumerate(arguments):
                for value, name, fields in wrongs:
                    values = [right for right, _ in arguments]
                    values[at] = value
                    self.expect(function, values, name, fields)

    def test_leftmost_first(self):
        for function, arguments in CALLS:
            for at, (_, wrongs) in enumerate(arguments[:-1]):
                for turn, (value, name, fields) in enumerate(wrongs):
                    # All arguments from this one on are wrong, with other wrong values each time.
                    values = [right for right, _ in arguments]
                    values[at] = value
                    for further in range(at + 1, len(arguments)):
                        others = arguments[further][1]
                        values[further] = others[turn % len(others)][0]
                    self.expect(function, values, name, fields)

    def test_leftmost_of_two(self):
        for function, arguments in CALLS:
            for at in range(len(arguments)):
                for further in range(at + 1, len(arguments)):
                    values = [right for right, _ in arguments]
                    value, name, fields = arguments[at][1][0]
                    values[at] = value
                    values[further] = arguments[further][1][0][0]
                    self.expect(function, values, name, fields)


if __name__ == "__main__":
    unittest.main()
