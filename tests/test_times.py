"""Times (point 10)."""

import unittest

from countdoors.errors import BadDoor
from countdoors.nests import first_numbers, free_numbers, last_numbers
from countdoors.times import ahead_chance, mean_times, time_chances

from tests import brute

CHAIN_9 = (1, 2, 3, 4, 5, 6, 7, 8, None)
APART_9 = (None,) * 9


class Times(unittest.TestCase):
    def test_small_nests(self):
        for nest, numbers in brute.houses(4, 2):
            for state in brute.all_states(nest):
                with self.subTest(nest=nest, numbers=numbers, state=state):
                    self.check_state(nest, numbers, state)

    def check_state(self, nest, numbers, state):
        many = len(nest)
        ways = brute.ways_from(nest, numbers, state)
        means = []
        for door in range(many):
            if door in state:
                means.append(None)
                self.assertRaises(BadDoor, time_chances, nest, numbers, state, door)
                continue
            times = [len(state) + way.index(door) for way in ways]
            chances = tuple(brute.ratio(times.count(time), len(ways)) for time in range(many)) if ways else None
            self.assertEqual(time_chances(nest, numbers, state, door), chances)
            means.append(brute.ratio(sum(times), len(ways)) if ways else None)
            for other in range(many):
                self.check_ahead(nest, numbers, state, door, other, ways)
        self.assertEqual(mean_times(nest, numbers, state), tuple(means) if ways else None)

    def check_ahead(self, nest, numbers, state, one, other, ways):
        if other in state or other == one:
            self.assertRaises(BadDoor, ahead_chance, nest, numbers, state, one, other)
            return
        ahead = len([way for way in ways if way.index(one) < way.index(other)])
        chance = brute.ratio(ahead, len(ways)) if ways else None
        self.assertEqual(ahead_chance(nest, numbers, state, one, other), chance)

    def test_one_door(self):
        nest = (None,)
        self.assertEqual([time_chances(nest, ((0,),), (), 0), mean_times(nest, ((0,),), ())], [((1, 1),), ((0, 1),)])
        self.assertEqual([time_chances(nest, ((),), (), 0), mean_times(nest, ((),), ())], [None, None])

    def test_all_doors_open(self):
        self.assertEqual(mean_times((2, 2, None), ((), (), ()), (0, 1, 2)), (None, None, None))

    def test_lost_state(self):
        nest, numbers = (2, 2, None), ((0,), (0,), (1,))
        self.assertIsNone(time_chances(nest, numbers, (0, 1), 2))
        self.assertIsNone(mean_times(nest, numbers, (0, 1)))
        numbers = ((0,), (0,), ())
        self.assertIsNone(time_chances(nest, numbers, (), 0))
        self.assertIsNone(ahead_chance(nest, numbers, (), 0, 1))

    def test_errors_in_a_lost_state(self):
        nest, numbers = (2, 2, None), ((0,), (0,), (1,))
        self.assertRaises(BadDoor, time_chances, nest, numbers, (0, 1), 0)
        self.assertRaises(BadDoor, time_chances, nest, ((0,), (0,), ()), (), 3)
        self.assertRaises(BadDoor, ahead_chance, nest, numbers, (0, 1), 2, 0)
        self.assertRaises(BadDoor, ahead_chance, nest, numbers, (0, 1), 0, 2)
        self.assertRaises(BadDoor, ahead_chance, nest, numbers, (0, 1), 2, 2)

    def test_state_that_cannot_be_met(self):
        nest, numbers = (2, 2, None), ((), (0,), (2,))
        self.assertEqual(mean_times(nest, numbers, (0,)), (None, (1, 1), (2, 1)))
        self.assertEqual(time_chances(nest, numbers, (0,), 1), ((0, 1), (1, 1), (0, 1)))
        self.assertEqual(ahead_chance(nest, numbers, (0,), 1, 2), (1, 1))
        self.assertEqual(ahead_chance(nest, numbers, (0,), 2, 1), (0, 1))

    def test_nine_doors(self):
        self.assertEqual(mean_times(CHAIN_9, last_numbers(CHAIN_9), ()), tuple((time, 1) for time in range(9)))
        self.assertEqual(mean_times(CHAIN_9, first_numbers(CHAIN_9), ()), tuple((time, 1) for time in range(8, -1, -1)))
        self.assertEqual(mean_times(CHAIN_9, free_numbers(CHAIN_9), ()), ((4, 1),) * 9)
        self.assertEqual(time_chances(APART_9, first_numbers(APART_9), (), 5), ((1, 9),) * 9)
        self.assertEqual(ahead_chance(CHAIN_9, last_numbers(CHAIN_9), (), 2, 7), (1, 1))
        self.assertEqual(time_chances(APART_9, ((0,),) * 9, (0, 3, 4, 8), 1), ((0, 1),) * 4 + ((1, 5),) * 5)


if __name__ == "__main__":
    unittest.main()
