"""Rows and rings of people in which whoever is lower than both neighbours may leave."""

from countdoors.common import is_integer
from countdoors.errors import BadOrder, BadRow
from countdoors.nests import mixings

MOST_PEOPLE = 9
GREATEST_HEIGHT = 99


def stays(row):
    """Return the ascending tuple of the places of those who are left at last."""
    check_row(row)
    return tuple([place for place, lower in enumerate(lower_ones(row)) if lower is None])


def leavers(row):
    """Return the tuple of the places of those who leave, by rising heights."""
    check_row(row)
    return tuple(leaving_places(row))


def leaving_nest(row):
    """Return the nest whose doors are those who leave, by rising heights; () if nobody leaves."""
    check_row(row)
    return nest_of(row)


def leave_count(row):
    """Return the number of orders in which all who leave may leave."""
    check_row(row)
    return orders_to_leave(row)


def is_leaving(row, order):
    """Tell whether those who leave may do so in an order, a tuple of their places."""
    check_row(row)
    check_leaving(row, order)
    lower = lower_ones(row)
    return all([order.index(place) < order.index(lower[place]) for place in order if lower[place] in order])


def payments(row):
    """Return the tuple of what those at each place pay for leaving, None for those who stay."""
    check_row(row)
    return tuple(paid_in(row))


def rounds(row):
    """Return the tuple of the rounds in which those at each place leave, None for those who stay.

    In each round all who may leave leave at once.
    """
    check_row(row)
    lower = lower_ones(row)
    found = [None if at is None else 1 for at in lower]
    # By rising heights the round of each one is known when its turn comes.
    for place in leaving_places(row):
        beside = lower[place]
        if found[beside] is not None:
            found[beside] = max(found[beside], found[place] + 1)
    return tuple(found)


def ring_count(ring):
    """Return the number of orders in which all but the tallest one of a ring may leave."""
    check_row(ring)
    return orders_to_leave(opened(ring))


def ring_payments(ring):
    """Return the tuple of what those at each place of a ring pay for leaving, None for the tallest one."""
    check_row(ring)
    top = ring.index(max(ring))
    paid = paid_in(opened(ring))
    return tuple([paid[(place - top) % len(ring)] for place in range(len(ring))])


def check_row(row):
    """Raise BadRow unless a value is a row of heights."""
    if not isinstance(row, tuple) or not 1 <= len(row) <= MOST_PEOPLE:
        raise BadRow("a row is a tuple of 1 to 9 heights")
    if not all([is_integer(height, 0, GREATEST_HEIGHT) for height in row]):
        raise BadRow("a height is an integer from 0 to 99")
    if len(set(row)) < len(row):
        raise BadRow("heights are unlike")


def check_leaving(row, order):
    """Raise BadOrder unless a value is a tuple of the places of all who leave, each once."""
    if not isinstance(order, tuple) or not all([is_integer(place, 0, len(row) - 1) for place in order]):
        raise BadOrder("an order of leaving is a tuple of places")
    if sorted(order) != sorted(leaving_places(row)):
        raise BadOrder("an order of leaving has all who leave, each once")


def opened(ring):
    """Return the heights from the tallest one of a ring around to itself.

    Between its two sides just the same ones leave as in the ring, in the same orders.
    """
    top = ring.index(max(ring))
    return ring[top:] + ring[:top + 1]


def lower_ones(heights):
    """Return the list, for each place, of that of the lower one of the two nearest taller ones.

    It is None for those who stay. Who leaves may do so as soon as these two stand beside it, and
    neither of them may before.
    """
    found = []
    for place in range(len(heights)):
        left = nearest_taller(heights, place, -1)
        right = nearest_taller(heights, place, 1)
        if left is None or right is None:
            found.append(None)
        else:
            found.append(left if heights[left] < heights[right] else right)
    return found


def nearest_taller(heights, place, step):
    """Return the place of the nearest taller one in a direction, None if there is none."""
    at = place + step
    while 0 <= at < len(heights):
        if heights[at] > heights[place]:
            return at
        at = at + step
    return None


def leaving_places(heights):
    """Return the list of the places of those who leave, by rising heights."""
    pairs = [(heights[place], place) for place, lower in enumerate(lower_ones(heights)) if lower is not None]
    return [place for _, place in sorted(pairs)]


def nest_of(heights):
    """Return the nest whose doors are those who leave, () if nobody does."""
    lower = lower_ones(heights)
    places = leaving_places(heights)
    return tuple([places.index(lower[place]) if lower[place] in places else None for place in places])


def orders_to_leave(heights):
    """Return the number of orders in which all who leave may leave."""
    nest = nest_of(heights)
    # Each door has one number alone, so just one choice of ranks is allowed.
    return mixings(nest) if nest else 1


def paid_in(heights):
    """Return the list of what those at each place pay for leaving, None for those who stay."""
    lower = lower_ones(heights)
    return [None if at is None else heights[at] - heights[place] for place, at in enumerate(lower)]
