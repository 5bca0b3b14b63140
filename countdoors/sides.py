"""Doors in a plain row that open by counts of open doors on both sides."""

from countdoors.common import (
    LAST_NUMBER, MOST_DOORS, all_doors, check_state, check_told, doors_of, is_order, is_rising, mask_of, masks_over,
    ones,
)
from countdoors.errors import BadOrder, BadSides


def side_count(lefts, rights):
    """Return the number of orders in which all doors can be opened."""
    check_sides(lefts, rights)
    return ways_to_all(lefts, rights)[0]


def side_order(lefts, rights):
    """Return the least order in which all doors can be opened, None if there is none."""
    check_sides(lefts, rights)
    ways = ways_to_all(lefts, rights)
    if ways[0] == 0:
        return None
    order = ()
    mask = 0
    while len(order) < len(lefts):
        doors = [door for door in side_ready_at(lefts, rights, mask) if ways[mask | 1 << door] > 0]
        order = order + (doors[0],)
        mask = mask | 1 << doors[0]
    return order


def side_ready(lefts, rights, state):
    """Return the ascending tuple of the closed doors that can be opened in a state."""
    check_sides(lefts, rights)
    check_state(lefts, state)
    return tuple(side_ready_at(lefts, rights, mask_of(state)))


def side_numbers(order):
    """Return the pair of lefts and rights, with one number for each door, that allow an order."""
    check_row_order(order)
    lefts = [()] * len(order)
    rights = [()] * len(order)
    mask = 0
    for door in order:
        lefts[door] = (left_of(mask, door),)
        rights[door] = (right_of(mask, door),)
        mask = mask | 1 << door
    return tuple(lefts), tuple(rights)


def turned_pairs(order):
    """Return the number of pairs of doors of which the right one stands ahead of the left one."""
    check_row_order(order)
    mask = 0
    total = 0
    for door in order:
        total = total + right_of(mask, door)
        mask = mask | 1 << door
    return total


def side_ends(lefts, rights):
    """Return the ascending tuple of the states that can be met in which no door is ready."""
    check_sides(lefts, rights)
    met = {0: True}
    ends = []
    # Behind each mask come only greater ones.
    for mask in range(1 << len(lefts)):
        if mask in met:
            doors = side_ready_at(lefts, rights, mask)
            for door in doors:
                met[mask | 1 << door] = True
            if not doors:
                ends.append(doors_of(mask))
    return tuple(sorted(ends))


def wide_sides(lefts, rights, orders):
    """Return the pair of lefts and rights with just as many more numbers as allow some orders."""
    check_sides(lefts, rights)
    check_told(len(lefts), orders)
    pairs = [side_numbers(order) for order in orders]
    return (
        joined_sides([lefts] + [left for left, _ in pairs]),
        joined_sides([rights] + [right for _, right in pairs]),
    )


def rows_as_nests(lefts):
    """Return the pair of the nest of rooms each in the next one, and the same numbers."""
    check_side(lefts)
    return tuple(range(1, len(lefts))) + (None,), lefts


def check_side(side):
    """Raise BadSides unless a value is numbers of one side."""
    if not isinstance(side, tuple) or not 1 <= len(side) <= MOST_DOORS:
        raise BadSides(None)
    for door, some in enumerate(side):
        if not is_rising(some, LAST_NUMBER):
            raise BadSides(door)


def check_sides(lefts, rights):
    """Raise BadSides unless two values are numbers of both sides."""
    check_side(lefts)
    if not isinstance(rights, tuple) or len(rights) != len(lefts):
        raise BadSides(None)
    check_side(rights)


def check_row_order(order):
    """Raise BadOrder unless a value is a tuple of 1 to 9 places, each once."""
    if not isinstance(order, tuple) or not 1 <= len(order) <= MOST_DOORS or not is_order(len(order), order):
        raise BadOrder("an order of a row is a tuple of 1 to 9 places, each once")


def left_of(mask, door):
    """Return how many doors of a mask stand to the left of a door."""
    return ones(mask & ((1 << door) - 1))


def right_of(mask, door):
    """Return how many doors of a mask stand to the right of a door."""
    return ones(mask >> door + 1)


def side_ready_at(lefts, rights, mask):
    """Return the ascending list of the doors that can be opened while those of a mask are open."""
    closed = doors_of(all_doors(lefts) ^ mask)
    return [
        door for door in closed
        if left_of(mask, door) in lefts[door] and right_of(mask, door) in rights[door]
    ]


def ways_to_all(lefts, rights):
    """Return the dict of the numbers of ways to open all closed doors, for each mask."""
    ways = {all_doors(lefts): 1}
    for mask in masks_over(lefts, 0)[1:]:
        ways[mask] = sum([ways[mask | 1 << door] for door in side_ready_at(lefts, rights, mask)])
    return ways


def joined_sides(sides):
    """Return, for each door, the ascending tuple of the numbers that it has on any of some sides."""
    return tuple([
        tuple(sorted(set([number for side in sides for number in side[door]])))
        for door in range(len(sides[0]))
    ])
