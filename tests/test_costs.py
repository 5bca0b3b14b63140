"""Costs (point 23)."""

import unittest
from fractions import Fraction
from itertools import product
from random import Random

from countdoors.costs import cost_paper, least_cost, mean_cost, shows_cost_paper
from countdoors.errors import BadPrices
from countdoors.nests import free_numbers, last_numbers

from tests import brute, wrong

CHAIN_9 = (1, 2, 3, 4, 5, 6, 7, 8, None)
APART_9 = (None,) * 9
UP_9 = tuple(range(9))


def some_prices(nest, seed):
    source = Random(f"{nest} prices {seed}")
    return tuple(source.choice([0, 0, 1, 2, 3, source.randrange(1001), 1000]) for _ in nest)


def cost(prices, order):
    return sum(prices[door] * time for time, door in enumerate(order, 1))


def kept_states(nest, numbers):
    """The states that can be met and are not lost."""
    return [state for state in brute.all_states(nest)
            if brute.ways_between(nest, numbers, (), state) and brute.ways_from(nest, numbers, state)]


def slow_judge(nest, numbers, prices, value):
    states = sorted(kept_states(nest, numbers))
    if not states or value is None:
        return not states and value is None
    if type(value) is not tuple or not all(type(item) is tuple and len(item) == 2 for item in value):
        return False
    if not all(brute.is_state(nest, state) and type(worth) is int for state, worth in value):
        return False
    if [state for state, _ in value] != states:
        return False
    table = dict(value)
    least = min(cost(prices, order) for order in brute.orders_of(nest, numbers))
    if table[()] != least or table[tuple(range(len(nest)))] != 0:
        return False
    return all(
        table[state] <= table[brute.further(state, door)] + prices[door] * (len(state) + 1)
        for state in states for door in brute.ready(nest, numbers, state) if brute.further(state, door) in table
    )


class Costs(unittest.TestCase):
    def test_small_nests(self):
        for nest, numbers in brute.houses():
            for seed in range(3):
                self.check(nest, numbers, some_prices(nest, seed))

    def test_five_doors(self):
        for nest in brute.all_nests(5)[::4]:
            self.check(nest, brute.full_numbers(nest, 2), some_prices(nest, 1))

    def check(self, nest, numbers, prices):
        with self.subTest(nest=nest, numbers=numbers, prices=prices):
            costs = sorted((cost(prices, order), order) for order in brute.orders_of(nest, numbers))
            if costs:
                self.assertEqual(least_cost(nest, numbers, prices), costs[0])
                mean = Fraction(sum(total for total, _ in costs), len(costs))
                self.assertEqual(mean_cost(nest, numbers, prices), brute.ratio(mean))
            else:
                self.assertEqual([least_cost(nest, numbers, prices), mean_cost(nest, numbers, prices)], [None, None])
            paper = cost_paper(nest, numbers, prices)
            self.assertIs(paper is None, not costs)
            self.assertIs(slow_judge(nest, numbers, prices, paper), True)
            self.assertIs(shows_cost_paper(nest, numbers, prices, paper), True)
            self.assertIs(shows_cost_paper(nest, numbers, prices, None), not costs)

    def test_other_papers(self):
        """Papers with all values near the right ones, for nests of few doors."""
        shown = 0
        for nest, numbers, prices in [((1, None), ((0,), (0, 1)), (2, 1)), ((None, None), ((0,), (0,)), (1, 1)),
                                      ((1, None), ((0,), (0,)), (0, 3)), ((2, 2, None), ((0,), (0,), (1,)), (5, 1, 3))]:
            states = sorted(kept_states(nest, numbers))
            right = dict(cost_paper(nest, numbers, prices))
            for change in product((-1, 0, 1), repeat=len(states)):
                value = tuple((state, right[state] + more) for state, more in zip(states, change))
                judged = shows_cost_paper(nest, numbers, prices, value)
                self.assertIs(judged, slow_judge(nest, numbers, prices, value))
                shown += judged
        self.assertGreater(shown, 5)

    def test_bent_papers(self):
        for nest, numbers, prices in [((2, 2, None), ((0,), (0,), (1,)), (5, 1, 3)), ((None,), ((0,),), (0,)),
                                      ((None,), ((1,),), (7,)), ((1, 2, None), ((0,), (0, 1), (0, 2)), (0, 1000, 1))]:
            paper = cost_paper(nest, numbers, prices)
            low = None if paper is None else tuple((state, worth if state in ((), (0,)) else -wrong.HUGE) for state, worth in paper)
            for value in [*wrong.bends(paper), *wrong.NO_ANSWERS, low]:
                with self.subTest(nest=nest, numbers=numbers, prices=prices, value=value):
                    self.assertIs(shows_cost_paper(nest, numbers, prices, value), slow_judge(nest, numbers, prices, value))

    def test_lost_and_unmet_states_are_not_in_a_paper(self):
        nest, numbers, prices = (2, 2, None), ((0,), (0,), (1,)), (5, 1, 3)
        paper = (((), 14), ((0,), 9), ((0, 1, 2), 0), ((0, 2), 3), ((1,), 21), ((1, 2), 15))
        self.assertEqual(cost_paper(nest, numbers, prices), paper)
        self.assertIs(shows_cost_paper(nest, numbers, prices, paper[:2] + (((0, 1), 0),) + paper[2:]), False)
        self.assertIs(shows_cost_paper(nest, numbers, prices, paper + (((2,), 0),)), False)
        for at in range(len(paper)):
            self.assertIs(shows_cost_paper(nest, numbers, prices, paper[:at] + paper[at + 1:]), False)

    def test_prices_at_the_limits(self):
        nest, numbers = (1, None), ((0,), (0, 1))
        self.assertEqual(least_cost(nest, numbers, (0, 0)), (0, (0, 1)))
        self.assertEqual(least_cost(nest, numbers, (0, 1)), (1, (1, 0)))
        self.assertEqual(least_cost(nest, numbers, (1000, 1000)), (3000, (0, 1)))
        for prices in [(0, 1001), (-1, 0), (0,), (0, 0, 0), (0, True), (0, None), (0, "1"), [0, 0], None, 0, (), ((0, 0),)]:
            for function in [least_cost, mean_cost, cost_paper]:
                self.assertRaises(BadPrices, function, nest, numbers, prices)
                self.assertRaises(BadPrices, function, nest, ((), ()), prices)
            self.assertRaises(BadPrices, shows_cost_paper, nest, numbers, prices, None)

    def test_one_door(self):
        self.assertEqual([least_cost((None,), ((0,),), (1000,)), mean_cost((None,), ((0,),), (1000,))], [(1000, (0,)), (1000, 1)])
        self.assertEqual(cost_paper((None,), ((0,),), (3,)), (((), 3), ((0,), 0)))
        self.assertEqual([least_cost((None,), ((1,),), (3,)), mean_cost((None,), ((),), (3,)), cost_paper((None,), ((),), (3,))], [None] * 3)

    def test_nine_doors(self):
        up = tuple(100 * door for door in range(9))
        total = sum(100 * door * (door + 1) for door in range(9))
        self.assertEqual(least_cost(CHAIN_9, last_numbers(CHAIN_9), up), (total, UP_9))
        self.assertEqual(mean_cost(CHAIN_9, last_numbers(CHAIN_9), up), (total, 1))
        # The dearest ones first, of equal ones the least ones.
        apart = least_cost(APART_9, ((0,),) * 9, (1, 5, 5, 0, 1000, 1, 0, 5, 2))
        self.assertEqual(apart, (1000 + 5 * (2 + 3 + 4) + 2 * 5 + 6 + 7, (4, 1, 2, 7, 8, 0, 5, 3, 6)))
        self.assertEqual(mean_cost(CHAIN_9, free_numbers(CHAIN_9), up), (18000, 1))
        paper = cost_paper(APART_9, ((0,),) * 9, up)
        self.assertEqual([len(paper), paper[0][0]], [512, ()])
        self.assertIs(shows_cost_paper(APART_9, ((0,),) * 9, up, paper), True)
        self.assertIs(shows_cost_paper(APART_9, ((0,),) * 9, up[::-1], paper), False)


if __name__ == "__main__":
    unittest.main()
