"""Gaps between the times of two doors in the allowed orders, all of these equally likely."""

from countdoors.common import (
    allowed_orders, check_both, check_door, ratio, room_masks, ways_left,
)
from countdoors.errors import BadDoor, TooMany

MOST_DOORS_WITH_GAPS = 7


def gap_chances(nest, numbers, one, other):
    """Return the ascending tuple of the pairs (gap, chance) of all gaps that allowed orders have.

    The gap is the time of the other door less that of the one. () without an allowed order.
    """
    check_both(nest, numbers)
    check_door(nest, one)
    check_door(nest, other)
    if one == other:
        raise BadDoor("there is no gap between a door and itself")
    check_few_doors(nest)
    orders = allowed_orders(room_masks(nest), numbers)
    gaps = [order.index(other) - order.index(one) for order in orders]
    return tuple([(gap, ratio(gaps.count(gap), len(gaps))) for gap in sorted(set(gaps))])


def mean_gap(nest, numbers):
    """Return the mean size of the gap of two doors, over all pairs of doors and all allowed orders.

    None for a single door, and without an allowed order.
    """
    check_both(nest, numbers)
    check_few_doors(nest)
    many = len(nest)
    if many == 1 or ways_left(room_masks(nest), numbers, 0) == 0:
        return None
    # In each order the pairs of doors are all pairs of places, and two of these are a third of
    # one more than their number apart, in the mean.
    return ratio(many + 1, 3)


def check_few_doors(nest):
    """Raise TooMany for more doors than gaps are told of."""
    if len(nest) > MOST_DOORS_WITH_GAPS:
        raise TooMany(MOST_DOORS_WITH_GAPS)
