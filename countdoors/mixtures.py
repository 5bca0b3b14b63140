"""Mixtures of allowed orders in which the mean times of the doors are some goals.

A mixture is a solution, without chances below 0, of equations: one for each door, by which its
mean time is its goal, and one by which the chances sum to 1. It is sought by the simplex method:
what the equations miss is made less and less, until nothing is missing or no order makes it less.
In the second case the equations, each taken so many times as they are summed up then, show that
there is no solution.
"""

from countdoors.common import (
    allowed_orders, check_both, check_few, is_order, is_ratio, plus, ratio, room_masks,
)
from countdoors.errors import BadGoals

MOST_MIXED = 120
GREATEST_BOTTOM = 1000


def mixture(nest, numbers, goals):
    """Return allowed orders with chances such that the mean time of each door is its goal.

    None if there are none.
    """
    orders = orders_for(nest, numbers, goals)
    rows, basis, scale = settled(orders, goals)
    if rows[-1][-1] > 0:
        return None
    equations = len(basis)
    return tuple(sorted([
        (orders[column - equations], ratio(rows[at][-1], scale))
        for at, column in enumerate(basis) if column >= equations and rows[at][-1] > 0
    ]))


def goal_paper(nest, numbers, goals):
    """Return a ratio for each door such that their sum of ratios times goals is less than for any order.

    None if there is a mixture.
    """
    orders = orders_for(nest, numbers, goals)
    rows, _, scale = settled(orders, goals)
    if rows[-1][-1] == 0:
        return None
    # The last row is a sum of equations in which no chance adds to what is missing. It began with
    # each of them once, and its column of what one misses tells how many times more it has it now.
    return tuple([
        ratio(-bottom * (rows[-1][door] + scale), scale) for door, (_, bottom) in enumerate(goals)
    ])


def shows_mixture(nest, numbers, goals, value):
    """Tell whether a value is what mixture may return."""
    orders = orders_for(nest, numbers, goals)
    if value is None:
        return not can_mix(orders, goals)
    if not is_mixture(orders, value) or sum_of([chance for _, chance in value]) != (1, 1):
        return False
    return all([mean_time(door, value) == goal for door, goal in enumerate(goals)])


def shows_goal_paper(nest, numbers, goals, value):
    """Tell whether a value is what goal_paper may return."""
    orders = orders_for(nest, numbers, goals)
    if value is None:
        return can_mix(orders, goals)
    if not isinstance(value, tuple) or len(value) != len(nest) or not all([is_ratio(item) for item in value]):
        return False
    return all([is_beyond(order, goals, value) for order in orders])


def orders_for(nest, numbers, goals):
    """Return the list of all allowed orders, or raise the error that a wrong argument calls for."""
    check_both(nest, numbers)
    check_goals(nest, goals)
    check_few(nest, numbers, MOST_MIXED)
    return allowed_orders(room_masks(nest), numbers)


def check_goals(nest, goals):
    """Raise BadGoals unless a value is goals for a nest."""
    if not isinstance(goals, tuple) or len(goals) != len(nest):
        raise BadGoals("goals are a tuple with one item for each door")
    for goal in goals:
        if not is_ratio(goal) or goal[1] > GREATEST_BOTTOM:
            raise BadGoals("a goal is a ratio with a denominator of at most 1000")
        if not 0 <= goal[0] <= goal[1] * (len(nest) - 1):
            raise BadGoals("a goal is from 0 to the number of doors less 1")


def can_mix(orders, goals):
    """Tell whether there is a mixture."""
    rows = settled(orders, goals)[0]
    return rows[-1][-1] == 0


def is_mixture(orders, value):
    """Tell whether a value is an ascending tuple of pairs of unlike orders, of some, and chances."""
    if not isinstance(value, tuple) or not all([is_part(orders, item) for item in value]):
        return False
    return all([part[0] < further[0] for part, further in zip(value, value[1:])])


def is_part(orders, value):
    """Tell whether a value is a pair of one of some orders and a chance greater than 0."""
    if not isinstance(value, tuple) or len(value) != 2 or not is_ratio(value[1]) or value[1][0] <= 0:
        return False
    return bool(orders) and is_order(len(orders[0]), value[0]) and value[0] in orders


def sum_of(ratios):
    """Return the sum of a list of ratios."""
    total = (0, 1)
    for item in ratios:
        total = plus(total, item)
    return total


def mean_time(door, parts):
    """Return the mean time of a door in a mixture."""
    return sum_of([ratio(order.index(door) * top, bottom) for order, (top, bottom) in parts])


def is_beyond(order, goals, paper):
    """Tell whether a paper's sum of ratios times goals is less than that of ratios times times in an order."""
    parts = []
    for door, (top, bottom) in enumerate(goals):
        ahead = order.index(door) * bottom - top
        parts.append(ratio(paper[door][0] * ahead, paper[door][1] * bottom))
    return sum_of(parts)[0] > 0


def settled(orders, goals):
    """Return the triple (rows, basis, scale) at which no order makes less what the equations miss.

    Rows are as those of first_rows, but each is a sum of these, times scale. The basis has, for
    each equation, the column that it tells: all columns that are not in it stand for 0.
    """
    rows = first_rows(orders, goals)
    basis = list(range(len(rows) - 1))
    scale = 1
    column = gaining_column(rows[-1], len(basis))
    while column is not None:
        at = leaving_row(rows, basis, column)
        rows, scale = turned_rows(rows, at, column, scale), rows[at][column]
        basis[at] = column
        column = gaining_column(rows[-1], len(basis))
    return rows, basis, scale


def first_rows(orders, goals):
    """Return the list of the rows of the equations, and at last the row of their sum.

    Columns are, for each equation, what it misses, then the chances of all orders, and at last
    the sum that the equation asks for. In the last row the columns of what is missing are left
    out, so that its own sum is what all equations miss.
    """
    times = [
        [order.index(door) * bottom - top for order in orders] for door, (top, bottom) in enumerate(goals)
    ]
    sides = times + [[1] * len(orders)]
    many = len(sides)
    asked = [0] * len(goals) + [1]
    rows = [
        [1 if other == at else 0 for other in range(many)] + sides[at] + [asked[at]] for at in range(many)
    ]
    sums = [sum([side[column] for side in sides]) for column in range(len(orders))]
    return rows + [[0] * many + sums + [1]]


def gaining_column(row, first):
    """Return the first column of an order by which less is missing, None if there is none."""
    for column in range(first, len(row) - 1):
        if row[column] > 0:
            return column
    return None


def leaving_row(rows, basis, column):
    """Return the equation that is the first to be met when the chance of a column rises from 0 on.

    Of several it is the one with the least column in the basis: by this and by gaining_column
    no basis comes again.
    """
    best = None
    for at, told in enumerate(basis):
        if rows[at][column] > 0:
            if best is None or (rows[at][-1] * rows[best][column], told) < (
                rows[best][-1] * rows[at][column], basis[best]
            ):
                best = at
    return best


def turned_rows(rows, at, column, scale):
    """Return the rows, now times the item of a row and a column, such that the others lack this column.

    They were times scale, by which the new ones can be divided without a rest.
    """
    pivot = rows[at][column]
    turned = []
    for other, row in enumerate(rows):
        if other == at:
            turned.append(row)
        else:
            turned.append([
                (item * pivot - row[column] * taken) // scale for item, taken in zip(row, rows[at])
            ])
    return turned
