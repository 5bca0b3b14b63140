"""Two hands (point 16)."""

import unittest

from countdoors.hands import last_hand, winning_doors, worth
from countdoors.nests import first_numbers, free_numbers, last_numbers
from countdoors.states import first_lost

from tests import brute

CHAIN_9 = (1, 2, 3, 4, 5, 6, 7, 8, None)
APART_9 = (None,) * 9
NINE = tuple(range(9))


def slow_wins(nest, numbers, state):
    """Whether the hand that opens next can win: it has a door behind which the other one cannot."""
    doors = brute.ready(nest, numbers, state)
    return any(not slow_wins(nest, numbers, brute.further(state, door)) for door in doors)


def slow_worth(nest, numbers, state):
    behind = {slow_worth(nest, numbers, brute.further(state, door)) for door in brute.ready(nest, numbers, state)}
    return min(set(range(len(nest) + 1)) - behind)


class Hands(unittest.TestCase):
    def test_small_nests(self):
        for nest, numbers in brute.houses():
            for state in brute.all_states(nest):
                self.check(nest, numbers, state)

    def test_five_doors(self):
        for nest in brute.all_nests(5)[::5]:
            for state in [(), (1,), (0, 3)]:
                self.check(nest, brute.some_numbers(nest, 7, 5), state)

    def check(self, nest, numbers, state):
        with self.subTest(nest=nest, numbers=numbers, state=state):
            self.assertIs(last_hand(nest, numbers, state), slow_wins(nest, numbers, state))
            self.assertEqual(worth(nest, numbers, state), slow_worth(nest, numbers, state))
            doors = [door for door in brute.ready(nest, numbers, state)
                     if not slow_wins(nest, numbers, brute.further(state, door))]
            self.assertEqual(winning_doors(nest, numbers, state), tuple(doors))

    def test_no_door_is_ready(self):
        for nest, numbers, state in [((None,), ((0,),), (0,)), ((None,), ((1,),), ()), (CHAIN_9, ((0,),) * 9, NINE),
                                     ((2, 2, None), ((0,), (0,), (1,)), (0, 1)), (APART_9, ((),) * 9, ())]:
            with self.subTest(nest=nest, state=state):
                self.assertIs(last_hand(nest, numbers, state), False)
                self.assertEqual([winning_doors(nest, numbers, state), worth(nest, numbers, state)], [(), 0])

    def test_states_that_cannot_be_met(self):
        nest, numbers = (2, 2, None), ((), (0,), (2,))
        self.assertEqual([worth(nest, numbers, (0,)), winning_doors(nest, numbers, (0,))], [0, ()])
        self.assertEqual([worth(nest, numbers, (0, 1)), winning_doors(nest, numbers, (0, 1))], [1, (2,)])

    def test_nothing_is_lost(self):
        for nest, numbers in [(CHAIN_9, free_numbers(CHAIN_9)), (CHAIN_9, last_numbers(CHAIN_9)), (APART_9, ((0,),) * 9)]:
            self.assertIsNone(first_lost(nest, numbers))
            self.assertEqual(worth(nest, numbers, ()), 1)
            self.assertIs(last_hand(nest, numbers, (0, 1)), True)
            self.assertIs(last_hand(nest, numbers, (0, 1, 2)), False)
            self.assertEqual(winning_doors(nest, numbers, (0, 1, 2)), ())
        self.assertEqual(winning_doors(APART_9, ((0,),) * 9, (4,)), ())
        self.assertEqual(winning_doors(APART_9, ((0,),) * 9, (4, 7)), (0, 1, 2, 3, 5, 6, 8))

    def test_nests_apart(self):
        """The worth of nests apart is that of theirs, added without carry in twos."""
        parts = [((2, 2, None), ((0,), (0,), (1,)), (0,)), ((1, None), ((0,), (0,)), ()), ((1, 2, None), ((0,), (0,), (0, 2)), ()),
                 ((2, 2, None), ((0,), (0,), (0, 1)), ()), ((2, 2, None), ((0,), (0,), ()), ()),
                 ((1, 2, None), ((0,), (0,), (0,)), ())]
        for nest, numbers, state in parts:
            for more, others, there in parts:
                doors = len(nest)
                joined = nest + tuple(None if outer is None else outer + doors for outer in more)
                opened = state + tuple(door + doors for door in there)
                total = worth(nest, numbers, state) ^ worth(more, others, there)
                self.assertEqual(worth(joined, numbers + others, opened), total)
        self.assertEqual({worth(*part) for part in parts}, {0, 1, 2, 3})

    def test_nine_doors(self):
        self.assertEqual(worth(CHAIN_9, first_numbers(CHAIN_9), ()), 9)
        self.assertEqual(winning_doors(CHAIN_9, first_numbers(CHAIN_9), ()), (0,))


if __name__ == "__main__":
    unittest.main()
