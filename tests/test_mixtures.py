"""Mixed orders (point 32)."""

import unittest
from fractions import Fraction
from itertools import product
from math import gcd
from random import Random

from countdoors.errors import BadGoals, BadNumbers, TooMany
from countdoors.mixtures import goal_paper, mixture, shows_goal_paper, shows_mixture
from countdoors.nests import free_numbers, last_numbers
from countdoors.orders import order_count

from tests import brute, wrong

CHAIN_9 = (1, 2, 3, 4, 5, 6, 7, 8, None)
APART_9 = (None,) * 9
APART_5 = (None,) * 5
UP_9 = tuple(range(9))
HOUSE = ((2, 2, None), ((0,), (0,), (1,)))


def is_ratio(value):
    return type(value) is tuple and len(value) == 2 and type(value[0]) is type(value[1]) is int \
        and value[1] > 0 and gcd(*value) == 1


def is_mixture(nest, numbers, goals, value):
    """Whether a value is a mixture with the right means, straight from the words of the document."""
    if type(value) is not tuple or not all(type(part) is tuple and len(part) == 2 for part in value):
        return False
    if not all(brute.is_order(nest, order) and is_ratio(chance) and chance[0] > 0 for order, chance in value):
        return False
    orders = [order for order, _ in value]
    if not brute.ascends(orders) or not all(brute.is_way(nest, numbers, (), order) for order in orders):
        return False
    if sum(Fraction(*chance) for _, chance in value) != 1:
        return False
    return all(
        sum(Fraction(*chance) * order.index(door) for order, chance in value) == Fraction(*goal)
        for door, goal in enumerate(goals)
    )


def is_goal_paper(nest, orders, goals, value):
    if type(value) is not tuple or len(value) != len(nest) or not all(is_ratio(item) for item in value):
        return False
    weights = [Fraction(*item) for item in value]
    least = sum(weight * Fraction(*goal) for weight, goal in zip(weights, goals))
    return all(least < sum(weight * order.index(door) for door, weight in enumerate(weights)) for order in orders)


def means(orders, weights):
    """The mean times of all doors in a mixture with chances like some weights, as fractions."""
    return [
        Fraction(sum(weight * order.index(door) for order, weight in zip(orders, weights)), sum(weights))
        for door in range(len(orders[0]))
    ]


def are_goals(nest, goals):
    return all(0 <= goal <= len(nest) - 1 and goal.denominator <= 1000 for goal in goals)


def some_goals(nest, orders, seed):
    """Goals for a nest: means of its orders, these moved a little, and any other ones."""
    source = Random(f"{nest} {len(orders)} goals {seed}")
    last = len(nest) - 1
    found = [[Fraction(last, 2)] * len(nest), [Fraction(door) for door in range(len(nest))], [Fraction(0)] * len(nest)]
    found.append([Fraction(source.randrange(last * 6 + 1), 6) for _ in nest])
    for many in (1, 2, 5):
        if orders:
            chosen = [source.choice(orders) for _ in range(many)]
            goals = means(chosen, [source.randrange(1, 5) for _ in chosen])
            one, other = source.randrange(len(nest)), source.randrange(len(nest))
            for far in (Fraction(1), Fraction(1, 7), Fraction(1, 50)):
                moved = list(goals)
                moved[one] += far
                moved[other] -= far
                found.append(moved)
            moved = list(goals)
            moved[one] += Fraction(1, 3)
            found += [goals, moved]
    return [tuple(brute.ratio(goal) for goal in goals) for goals in found if are_goals(nest, goals)]


class Mixtures(unittest.TestCase):
    def check(self, nest, numbers, goals, orders):
        """One of the two returns None, the other one's value is right; True if there is a mixture."""
        with self.subTest(nest=nest, numbers=numbers, goals=goals):
            mixed, paper = mixture(nest, numbers, goals), goal_paper(nest, numbers, goals)
            self.assertIs(mixed is None, paper is not None)
            if paper is None:
                self.assertTrue(is_mixture(nest, numbers, goals, mixed))
            else:
                self.assertTrue(is_goal_paper(nest, orders, goals, paper))
            self.assertIs(shows_mixture(nest, numbers, goals, mixed), True)
            self.assertIs(shows_goal_paper(nest, numbers, goals, paper), True)
            self.assertIs(shows_mixture(nest, numbers, goals, None), mixed is None)
            self.assertIs(shows_goal_paper(nest, numbers, goals, None), paper is None)
            return mixed is not None

    def test_small_nests(self):
        there = 0
        every = 0
        for nest, numbers in brute.houses(4, 2):
            orders = brute.orders_of(nest, numbers)
            for goals in some_goals(nest, orders, 1):
                there += self.check(nest, numbers, goals, orders)
                every += 1
        self.assertGreater(there, every // 10)
        self.assertLess(there, every - every // 10)

    def test_all_orders_of_four_doors(self):
        nest, numbers = (None,) * 4, ((0,),) * 4
        orders = brute.orders_of(nest, numbers)
        for seed in range(12):
            for goals in some_goals(nest, orders, seed):
                # Means are mixed exactly if any doors sum up to no less than the first times do.
                sums = [Fraction(*goal) for goal in goals]
                lots = [[some for some, bit in zip(sums, bits) if bit] for bits in product((0, 1), repeat=4)]
                right = sum(sums) == 6 and all(sum(lot) >= len(lot) * (len(lot) - 1) // 2 for lot in lots)
                self.assertIs(self.check(nest, numbers, goals, orders), right)

    def test_all_goals_of_two_orders(self):
        orders = brute.orders_of(*HOUSE)
        halves = [brute.ratio(top, 2) for top in range(5)]
        right = {goals for goals in product(halves, repeat=3) if self.check(*HOUSE, goals, orders)}
        self.assertEqual(right, {((0, 1), (2, 1), (1, 1)), ((1, 2), (3, 2), (1, 1)), ((1, 1),) * 3, ((3, 2), (1, 2), (1, 1)), ((2, 1), (0, 1), (1, 1))})

    def test_other_values_are_judged(self):
        """Values that differ from what is returned, but are as good, or nearly so."""
        nest, numbers, goals = (None,) * 3, ((0,),) * 3, ((1, 1),) * 3
        ring = (((0, 1, 2), (1, 3)), ((1, 2, 0), (1, 3)), ((2, 0, 1), (1, 3)))
        pair = (((0, 1, 2), (1, 2)), ((2, 1, 0), (1, 2)))
        for value in [ring, pair, (((0, 2, 1), (1, 2)), ((1, 2, 0), (1, 2)))]:
            self.assertIs(shows_mixture(nest, numbers, goals, value), True)
        for value in [
            pair[::-1], pair[:1], (((0, 1, 2), (1, 4)), ((0, 1, 2), (1, 4)), ((2, 1, 0), (1, 2))), (((0, 1, 2), (2, 4)), ((2, 1, 0), (1, 2))),
            (((0, 1, 2), (1, 4)), ((2, 1, 0), (1, 4))), (((0, 1, 2), (1, 2)), ((2, 0, 1), (1, 2))), (), (((0, 1, 2), (1, 1)), ((1, 0, 2), (0, 1))),
            (((0, 1, 2), (-1, -2)), ((2, 1, 0), (1, 2))), ((([0, 1, 2]), (1, 2)), ((2, 1, 0), (1, 2))), (((0, True, 2), (1, 2)), ((2, 1, 0), (1, 2))),
            (((0, 1, 2), (True, 2)), ((2, 1, 0), (1, 2))), (((0, 1, 2), (1, 2), 0), ((2, 1, 0), (1, 2))), (((0, 1, 2), 1), ((2, 1, 0), 0)), pair + ((),),
            pair[:1] + (((1, 0, 2), (0, 1)),) + pair[1:], ring[:2] + (((2, 0, 1), (-1, 3)),), (((0, 1, 2), (1, 0)), ((2, 1, 0), (1, 2))),
        ]:
            with self.subTest(value=value):
                self.assertIs(shows_mixture(nest, numbers, goals, value), False)
        # Orders that are not allowed do not count, however well they fit.
        self.assertIs(shows_mixture(*HOUSE, goals, pair), False)
        self.assertIs(shows_mixture(nest, numbers, ((0, 1), (1, 1), (2, 1)), (((0, 1, 2), (1, 1)),)), True)

    def test_other_papers_are_judged(self):
        goals = ((0, 1),) * 3
        for value in product([(-1, 1), (0, 1), (1, 2), (1, 1), (5, 3)], repeat=3):
            right = is_goal_paper(HOUSE[0], brute.orders_of(*HOUSE), goals, value)
            self.assertIs(shows_goal_paper(*HOUSE, goals, value), right)
        # The sums have to be less, not the same: here both orders have the sum 1.
        self.assertIs(shows_goal_paper(*HOUSE, ((0, 1), (0, 1), (1, 1)), ((0, 1), (0, 1), (1, 1))), False)
        self.assertIs(shows_goal_paper(*HOUSE, ((0, 1), (0, 1), (999, 1000)), ((0, 1), (0, 1), (1, 1))), True)
        self.assertIs(shows_goal_paper(*HOUSE, ((0, 1), (0, 1), (999, 1000)), ((0, 1), (0, 1), (1, wrong.HUGE))), True)
        for bad in [((0, 1), (0, 1), (2, 2)), ((0, 1), (0, 1), (1, 0)), ((0, 1), (0, 1), (-1, -1)), ((0, 2), (0, 1), (1, 1)), ((0, 1), (0, 1), 1),
                    ((0, 1), (0, 1), (True, 1)), ((0, 1), (0, 1), (1, True)), ((0, 1), (1, 1)), ((0, 1),) * 3 + ((1, 1),), [(0, 1), (0, 1), (1, 1)],
                    ((0, 1), (0, 1), [1, 1]), ((0, 1), (0, 1), (1, 1, 1)), ((0, 1), (0, 1), ("1", 1)), ((0, 1), (0, 1), None)]:
            with self.subTest(value=bad):
                self.assertIs(shows_goal_paper(*HOUSE, goals, bad), False)

    def test_bent_values(self):
        cases = [(*HOUSE, ((1, 1),) * 3), (*HOUSE, ((0, 1),) * 3), ((None, None), ((0,), (0,)), ((1, 4), (3, 4))), ((None,), ((0,),), ((0, 1),)),
                 ((None,), ((1,),), ((0, 1),)), ((None, None), ((0,), ()), ((1, 2), (1, 2))), ((1, None), ((0,), (1,)), ((1, 1), (0, 1)))]
        for nest, numbers, goals in cases:
            orders = brute.orders_of(nest, numbers)
            mixed, paper = mixture(nest, numbers, goals), goal_paper(nest, numbers, goals)
            for value in [*wrong.bends(mixed), *wrong.bends(paper), mixed, paper, *wrong.NO_ANSWERS, None]:
                with self.subTest(nest=nest, numbers=numbers, goals=goals, value=value):
                    right = mixed is None if value is None else is_mixture(nest, numbers, goals, value)
                    self.assertIs(shows_mixture(nest, numbers, goals, value), right)
                    right = paper is None if value is None else is_goal_paper(nest, orders, goals, value)
                    self.assertIs(shows_goal_paper(nest, numbers, goals, value), right)

    def test_no_order_is_allowed(self):
        for nest, goals in [((None,), ((0, 1),)), ((2, 2, None), ((1, 1),) * 3), (APART_9, ((4, 1),) * 9)]:
            for numbers in [((),) * len(nest), ((8,),) * (len(nest) - 1) + ((),)]:
                self.assertIs(self.check(nest, numbers, goals, []), False)
                # Any ratios are less than those of no order.
                self.assertIs(shows_goal_paper(nest, numbers, goals, ((0, 1),) * len(nest)), True)
                self.assertIs(shows_goal_paper(nest, numbers, goals, ((-7, 2),) * len(nest)), True)
                self.assertIs(shows_goal_paper(nest, numbers, goals, ((0, 2),) * len(nest)), False)
                self.assertIs(shows_mixture(nest, numbers, goals, ()), False)

    def test_120_orders_and_more(self):
        zeros = ((0,),) * 5
        orders = brute.orders_of(APART_5, zeros)
        self.assertEqual(len(orders), 120)
        found = {self.check(APART_5, zeros, goals, orders) for seed in range(8) for goals in some_goals(APART_5, orders, seed)}
        self.assertEqual(found, {False, True})
        # 125 is the next number of orders that a nest can have.
        nest, more = (1, 2, 3, 4, 5, 6, None), ((0,), (0,), (1,), (3,), UP_9[:5], (0, 1, 2, 4, 5), (0, 1, 2, 5, 6, 7))
        self.assertEqual(order_count(nest, more), 125)
        for bad, some in [(nest, more), (APART_9, ((0,),) * 9), (CHAIN_9, free_numbers(CHAIN_9))]:
            goals = ((1, 1),) * len(bad)
            for function, values in [(mixture, []), (goal_paper, []), (shows_mixture, [None]), (shows_goal_paper, [7])]:
                with self.assertRaises(TooMany) as caught:
                    function(bad, some, goals, *values)
                self.assertEqual(caught.exception.most, 120)
                self.assertRaises(BadGoals, function, bad, some, ((1, 0),) * len(bad), *values)
                self.assertRaises(BadNumbers, function, bad, some[1:], ((1, 0),) * len(bad), *values)

    def test_nine_doors(self):
        last = last_numbers(CHAIN_9)
        self.assertEqual(mixture(CHAIN_9, last, tuple((door, 1) for door in range(9))), ((UP_9, (1, 1)),))
        self.assertIs(self.check(CHAIN_9, last, ((4, 1),) * 9, [UP_9]), False)
        numbers = ((0,),) * 4 + ((0, 4), (5,), (0, 3, 6), (0, 1, 2, 6, 7), (0, 4, 8))
        orders = brute_orders(CHAIN_9, numbers)
        self.assertEqual(len(orders), 90)
        found = [self.check(CHAIN_9, numbers, goals, orders) for seed in range(4) for goals in some_goals(CHAIN_9, orders, seed)]
        self.assertEqual(set(found), {False, True})

    def test_one_door(self):
        self.assertEqual([mixture((None,), ((0,),), ((0, 1),)), goal_paper((None,), ((0,),), ((0, 1),))], [(((0,), (1, 1)),), None])

    def test_limits_of_goals(self):
        nest, numbers = (1, None), ((0,), (0, 1))
        self.assertEqual(mixture(nest, numbers, ((1, 1000), (999, 1000))), (((0, 1), (999, 1000)), ((1, 0), (1, 1000))))
        self.assertEqual(mixture(nest, numbers, ((1, 1), (0, 1))), (((1, 0), (1, 1)),))
        for bad in [((1, 1001), (1000, 1001)), ((2, 1), (0, 1)), ((-1, 2), (1, 1)), ((2, 4), (1, 2)), ((1, -2), (1, 2)), ((-1, -2), (1, 2)), ((1, 0), (1, 2)),
                    ((1001, 1000), (1, 2)), ((0, 2), (1, 1)), (0, 1), ((1, 1),), ((1, 1), (0, 1), (0, 1)), [(1, 1), (0, 1)], ((1, 1), [0, 1]), ((True, 1), (0, 1)),
                    ((1, True), (0, 1)), ((1, 1), None), ((1, 1), (0, 1, 1)), ((1, 1), ("0", 1)), ((1, 1), (0,)), ((1, 1), (0, None)), None, 1, "11", {}]:
            with self.subTest(goals=bad):
                for some in [numbers, ((), ())]:
                    self.assertRaises(BadGoals, mixture, nest, some, bad)
                    self.assertRaises(BadGoals, goal_paper, nest, some, bad)
                    self.assertRaises(BadGoals, shows_mixture, nest, some, bad, None)
                    self.assertRaises(BadGoals, shows_goal_paper, nest, some, bad, None)


def brute_orders(nest, numbers):
    """All allowed orders of a nest of many doors, one door at a time."""
    begun = [()]
    for _ in nest:
        begun = [(*order, door) for order in begun for door in brute.ready(nest, numbers, order)]
    return begun


if __name__ == "__main__":
    unittest.main()
