"""Words of mixings, and orders joined from ranks and words (point 27)."""

import unittest
from itertools import permutations, product

from countdoors.errors import BadWords
from countdoors.nests import mixings
from countdoors.words import order_of, words_of

from tests import brute, wrong

CHAIN_9 = (1, 2, 3, 4, 5, 6, 7, 8, None)
APART_9 = (None,) * 9
UP_9 = tuple(range(9))


def slow_words(nest, order):
    """For each door, and at last for None, the heads of the doors inside in their order."""
    words = []
    for outer in [*range(len(nest)), None]:
        word = []
        for door in order:
            line = [door, *brute.doors_around(nest, door)]
            word += [head for head in line if nest[head] == outer]
        words.append(tuple(word))
    return tuple(words)


def is_words(nest, value):
    if type(value) is not tuple or len(value) != len(nest) + 1:
        return False
    for outer, word in zip([*range(len(nest)), None], value):
        if type(word) is not tuple or not all(type(head) is int for head in word):
            return False
        heads = [head for head in range(len(nest)) if nest[head] == outer]
        if sorted(word) != sorted(head for head in heads for _ in range(len(brute.doors_inside(nest, head)) + 1)):
            return False
    return True


class Words(unittest.TestCase):
    def test_all_orders_of_small_nests(self):
        for many in range(1, 5):
            for nest in brute.all_nests(many):
                seen = set()
                for order in permutations(range(many)):
                    with self.subTest(nest=nest, order=order):
                        words = words_of(nest, order)
                        self.assertEqual(words, slow_words(nest, order))
                        self.assertTrue(is_words(nest, words))
                        self.assertEqual(order_of(nest, brute.ranks_of(nest, order), words), order)
                        seen.add(words)
                self.assertEqual(len(seen), mixings(nest))

    def test_ranks_and_words_of_different_orders(self):
        for many in range(1, 5):
            for nest in brute.all_nests(many):
                orders = list(permutations(range(many)))
                for one, other in product(orders[::3], orders[::2]):
                    some, words = brute.ranks_of(nest, one), slow_words(nest, other)
                    order = order_of(nest, some, words)
                    with self.subTest(nest=nest, some=some, words=words):
                        self.assertTrue(brute.is_order(nest, order))
                        self.assertEqual((brute.ranks_of(nest, order), slow_words(nest, order)), (some, words))

    def test_five_doors(self):
        for nest in brute.all_nests(5)[::4]:
            for order in list(permutations(range(5)))[::7]:
                self.assertEqual(words_of(nest, order), slow_words(nest, order))
                self.assertEqual(order_of(nest, brute.ranks_of(nest, order), words_of(nest, order)), order)

    def test_bent_words(self):
        for nest, order in [((2, 2, None), (1, 2, 0)), ((None,), (0,)), ((1, None, None), (2, 1, 0)), ((2, None, None), (0, 1, 2))]:
            some = brute.ranks_of(nest, order)
            for value in [*wrong.bends(words_of(nest, order)), *wrong.NO_ANSWERS]:
                with self.subTest(nest=nest, value=value):
                    if is_words(nest, value):
                        self.assertEqual(slow_words(nest, order_of(nest, some, value)), value)
                    else:
                        self.assertRaises(BadWords, order_of, nest, some, value)

    def test_one_and_nine_doors(self):
        self.assertEqual([words_of((None,), (0,)), order_of((None,), (0,), ((), (0,)))], [((), (0,)), (0,)])
        self.assertEqual(words_of(APART_9, UP_9[::-1]), ((),) * 9 + (UP_9[::-1],))
        self.assertEqual(order_of(APART_9, (0,) * 9, ((),) * 9 + (UP_9[::-1],)), UP_9[::-1])
        chain = tuple((door,) * (door + 1) for door in range(9))
        self.assertEqual(words_of(CHAIN_9, UP_9[::-1]), ((), *chain))
        self.assertEqual(order_of(CHAIN_9, (0,) * 9, ((), *chain)), UP_9[::-1])
        self.assertEqual(order_of(CHAIN_9, UP_9, ((), *chain)), UP_9)


if __name__ == "__main__":
    unittest.main()
