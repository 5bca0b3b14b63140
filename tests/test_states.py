"""States (points 8 and 9)."""

import unittest
from math import factorial

from countdoors.nests import first_numbers, free_numbers, last_numbers, sizes
from countdoors.states import (
    first_lost, is_safe, last_states, lost_door, met_count, next_chances, open_inside, ready, safe_next,
    shows_lost, ways_between, ways_on,
)

from tests import brute, wrong

CHAIN_9 = (1, 2, 3, 4, 5, 6, 7, 8, None)
APART_9 = (None,) * 9
NINE = tuple(range(9))


class OneState(unittest.TestCase):
    def test_small_nests(self):
        for nest, numbers in brute.houses():
            for state in brute.all_states(nest):
                with self.subTest(nest=nest, numbers=numbers, state=state):
                    self.check_state(nest, numbers, state)

    def check_state(self, nest, numbers, state):
        doors = range(len(nest))
        counts = [len([inner for inner in brute.doors_inside(nest, door) if inner in state]) for door in doors]
        self.assertEqual(open_inside(nest, state), tuple(counts))
        can = [door for door in doors if brute.can_open(nest, numbers, state, door)]
        self.assertEqual(ready(nest, numbers, state), tuple(can))
        ways = brute.ways_from(nest, numbers, state)
        self.assertEqual(ways_on(nest, numbers, state), len(ways))
        safe = [door for door in can if brute.ways_from(nest, numbers, tuple(sorted((*state, door))))]
        self.assertEqual(safe_next(nest, numbers, state), tuple(safe))
        if not ways or len(state) == len(nest):
            self.assertIsNone(next_chances(nest, numbers, state))
        else:
            begun = [len([way for way in ways if way[0] == door]) for door in doors]
            chances = tuple(brute.ratio(many, len(ways)) for many in begun)
            self.assertEqual(next_chances(nest, numbers, state), chances)
        self.check_lost(nest, numbers, state, bool(ways))

    def check_lost(self, nest, numbers, state, has_ways):
        door = lost_door(nest, numbers, state)
        self.assertIs(door is None, has_ways)
        self.assertIs(shows_lost(nest, numbers, state, None), has_ways)
        self.assertIs(shows_lost(nest, numbers, state, door), True)
        for door in range(len(nest)):
            inner = brute.doors_inside(nest, door)
            count = len([other for other in inner if other in state])
            shut = door not in state and not set(numbers[door]) & set(range(count, len(inner) + 1))
            self.assertIs(shows_lost(nest, numbers, state, door), shut)

    def test_ways_are_a_product(self):
        nest, numbers = (2, 2, 8, 4, 5, 8, 7, 8, None), ((0,), (0,), (1, 2), (0,), (0, 1), (0, 1, 2), (0,), (1,), (2, 6, 8))
        # 9 doors closed: 9! times 1, 1, 2 of 3, 1, 2 of 2, 3 of 3, 1, 1 of 2, 3 of 9.
        self.assertEqual(ways_on(nest, numbers, ()), factorial(9) * 2 * 1 // (3 * 2 * 3))
        # With 0, 4, 6 and 8 open: 1 may be opened; 2 has 1 and 2 of 1 to 2; 5 has 1 and 2 of 1 to 2; 7 has 1 of 1.
        self.assertEqual(ways_on(nest, numbers, (0, 4, 6, 8)), factorial(5))
        self.assertEqual(ways_on(nest, numbers, (0, 1, 4, 6, 8)), factorial(4))
        # With 6 and 7 open, 8 has 2, 6 and 8 of 2 to 8.
        self.assertEqual(ways_on(nest, numbers, (6, 7)), factorial(7) * 2 * 3 // (3 * 7))

    def test_one_door(self):
        for numbers, closed in [(((0,),), ((0,), 1, None, ((1, 1),))), (((),), ((), 0, 0, None)), (((1,),), ((), 0, 0, None))]:
            nest = (None,)
            answers = (ready(nest, numbers, ()), ways_on(nest, numbers, ()), lost_door(nest, numbers, ()),
                       next_chances(nest, numbers, ()))
            self.assertEqual(answers, closed)
            self.assertEqual(safe_next(nest, numbers, ()), closed[0])
            self.assertEqual(open_inside(nest, (0,)), (0,))
            self.assertEqual([ready(nest, numbers, (0,)), ways_on(nest, numbers, (0,))], [(), 1])

    def test_all_doors_open(self):
        for nest, numbers in [(CHAIN_9, ((),) * 9), ((2, 2, None), ((0,), (0,), (1,)))]:
            state = tuple(range(len(nest)))
            self.assertEqual(ways_on(nest, numbers, state), 1)
            self.assertEqual([ready(nest, numbers, state), safe_next(nest, numbers, state)], [(), ()])
            self.assertIsNone(next_chances(nest, numbers, state))
            self.assertIsNone(lost_door(nest, numbers, state))
            self.assertEqual(open_inside(nest, state), tuple(size - 1 for size in sizes(nest)))

    def test_state_that_cannot_be_met(self):
        nest, numbers = (2, 2, None), ((0,), (), (1,))
        self.assertEqual(ways_on(nest, numbers, (1,)), 1)
        self.assertEqual(next_chances(nest, numbers, (1,)), ((0, 1), (0, 1), (1, 1)))
        self.assertEqual([ready(nest, numbers, (1,)), safe_next(nest, numbers, (1,))], [(0, 2), (2,)])

    def test_lost_state(self):
        nest, numbers = (2, 2, None), ((0,), (0,), (1,))
        self.assertEqual([ways_on(nest, numbers, (0, 1)), lost_door(nest, numbers, (0, 1))], [0, 2])
        self.assertIsNone(next_chances(nest, numbers, (0, 1)))
        # A ready door does not help: behind it the state is lost still.
        self.assertEqual([ready((None, None), ((0,), ()), ()), safe_next((None, None), ((0,), ()), ())], [(0,), ()])

    def test_nine_doors(self):
        self.assertEqual(ways_on(CHAIN_9, free_numbers(CHAIN_9), ()), factorial(9))
        self.assertEqual(next_chances(CHAIN_9, free_numbers(CHAIN_9), ()), ((1, 9),) * 9)
        self.assertEqual(open_inside(CHAIN_9, (0, 3, 8)), (0, 1, 1, 1, 2, 2, 2, 2, 2))
        self.assertEqual(ready(CHAIN_9, last_numbers(CHAIN_9), (0, 1, 2)), (3,))
        self.assertEqual(ready(APART_9, first_numbers(APART_9), (0, 8)), tuple(range(1, 8)))

    def test_shows_lost_takes_every_value(self):
        nest = (2, 2, None)
        for numbers, state in [(((0,), (0,), (1,)), (0, 1)), (((), (), ()), ()), (((0,), (0,), (1,)), ())]:
            for value in wrong.NO_ANSWERS:
                with self.subTest(numbers=numbers, state=state, value=value):
                    self.assertIs(shows_lost(nest, numbers, state, value), False)


class AllStates(unittest.TestCase):
    def test_ways_between(self):
        for nest, numbers in brute.houses(3):
            states = brute.all_states(nest)
            for one in states:
                for other in states:
                    with self.subTest(nest=nest, numbers=numbers, one=one, other=other):
                        ways = brute.ways_between(nest, numbers, one, other)
                        self.assertEqual(ways_between(nest, numbers, one, other), len(ways))

    def test_ways_between_four_doors(self):
        for nest, numbers in list(brute.houses(4, 1))[-48::5]:
            for one in brute.all_states(nest)[::3]:
                for other in brute.all_states(nest):
                    with self.subTest(nest=nest, numbers=numbers, one=one, other=other):
                        ways = brute.ways_between(nest, numbers, one, other)
                        self.assertEqual(ways_between(nest, numbers, one, other), len(ways))

    def test_two_states_in_either_order(self):
        nest, numbers = (2, 2, None), ((0,), (0,), (0, 1))
        self.assertEqual([ways_between(nest, numbers, (), (0, 2)), ways_between(nest, numbers, (0, 2), ())], [2, 0])
        self.assertEqual([ways_between(nest, numbers, (0,), (1,)), ways_between(nest, numbers, (0, 1), (0, 2))], [0, 0])
        self.assertEqual([ways_between(nest, numbers, state, state) for state in brute.all_states(nest)], [1] * 8)
        # From a state that cannot be met, and to a lost one.
        self.assertEqual(ways_between((1, None), ((), (1,)), (0,), (0, 1)), 1)
        self.assertEqual(ways_between(nest, ((0,), (0,), ()), (), (0, 1)), 2)
        self.assertEqual(ways_between(CHAIN_9, free_numbers(CHAIN_9), (), NINE), factorial(9))
        self.assertEqual(ways_between(CHAIN_9, free_numbers(CHAIN_9), NINE, ()), 0)

    def test_states_that_can_be_met(self):
        for nest, numbers in brute.houses():
            with self.subTest(nest=nest, numbers=numbers):
                met = slow_met(nest, numbers)
                self.assertEqual(met_count(nest, numbers), len(met))
                doors = range(len(nest))
                last = [
                    state for state in met if not [door for door in doors if brute.can_open(nest, numbers, state, door)]
                ]
                self.assertEqual(last_states(nest, numbers), tuple(sorted(last)))
                lost = [(len(state), state) for state in met if not brute.ways_from(nest, numbers, state)]
                self.assertIs(is_safe(nest, numbers), not lost)
                self.assertEqual(first_lost(nest, numbers), min(lost) if lost else None)
                self.assertIs(not lost, all(size - 1 in some for some, size in zip(numbers, sizes(nest))))

    def test_edges(self):
        self.assertEqual([met_count((None,), ((0,),)), met_count((None,), ((),)), met_count((None,), ((3,),))], [2, 1, 1])
        self.assertEqual([last_states((None,), ((0,),)), last_states((None,), ((),))], [((0,),), ((),)])
        self.assertEqual([first_lost((None,), ((0,),)), first_lost((None,), ((),))], [None, (0, ())])
        self.assertEqual([is_safe((None,), ((0, 5),)), is_safe((None,), ((5,),))], [True, False])
        self.assertEqual(last_states((2, 2, None), ((0,), (0,), ())), ((0, 1),))
        self.assertEqual(first_lost((2, 2, None), ((0,), (0,), (0,))), (1, (0,)))
        self.assertEqual(first_lost((2, 2, None, None), ((0,), (0,), (1,), (0,))), (2, (0, 1)))
        # Two rooms that are lost with both doors inside open, (1, 3) and (0, 4).
        rooms = ((0,), (0,), (0,), (0,), (0,), (0, 1), (0, 1))
        self.assertEqual(first_lost((6, 5, None, 5, 6, None, None), rooms), (2, (0, 4)))
        self.assertEqual(last_states((None, 2, None), ((0,), (), (0,))), ((0, 2),))

    def test_nine_doors(self):
        self.assertEqual(met_count(APART_9, first_numbers(APART_9)), 512)
        self.assertEqual(met_count(CHAIN_9, last_numbers(CHAIN_9)), 10)
        self.assertEqual(met_count(CHAIN_9, free_numbers(CHAIN_9)), 512)
        self.assertEqual(last_states(CHAIN_9, last_numbers(CHAIN_9)), (NINE,))
        self.assertIs(is_safe(CHAIN_9, last_numbers(CHAIN_9)), True)
        self.assertEqual(first_lost(CHAIN_9, first_numbers(CHAIN_9)), (1, (0,)))
        self.assertEqual(first_lost((8,) * 8 + (None,), ((0,),) * 8 + ((6,),)), (7, (0, 1, 2, 3, 4, 5, 6)))


def slow_met(nest, numbers):
    """All states that can be met, found by opening doors."""
    met = [()]
    for state in met:
        for door in range(len(nest)):
            further = tuple(sorted((*state, door)))
            if brute.can_open(nest, numbers, state, door) and further not in met:
                met.append(further)
    return met


if __name__ == "__main__":
    unittest.main()
