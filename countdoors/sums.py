"""Sums of the ranks of all doors."""

from countdoors.common import (
    all_doors, check_both, check_count, doors_of, ones, ratio, ready_at, room_masks,
)
from countdoors.nests import mixings

MOST_RESTS = 9
GREATEST_SUM = 36


def sum_counts(nest, numbers):
    """Return the numbers of allowed orders with the sums from 0 on."""
    check_both(nest, numbers)
    times = mixings(nest)
    return tuple([times * many for many in rank_sums(room_masks(nest), numbers, 0)])


def rest_counts(nest, numbers, many):
    """Return how many allowed orders have sums with the rests 0 to many - 1 by many."""
    check_both(nest, numbers)
    check_count(many, 1, MOST_RESTS)
    counts = [0] * many
    for total, orders in enumerate(sum_counts(nest, numbers)):
        rest = total % many
        counts[rest] = counts[rest] + orders
    return tuple(counts)


def mean_sum(nest, numbers):
    """Return the mean of the sums of all allowed orders, and that of the squared differences from it.

    None without an allowed order.
    """
    counts = sum_counts(nest, numbers)
    many = sum(counts)
    if many == 0:
        return None
    first = sum([total * orders for total, orders in enumerate(counts)])
    second = sum([total * total * orders for total, orders in enumerate(counts)])
    return ratio(first, many), ratio(second * many - first * first, many * many)


def with_sum(nest, numbers, total):
    """Return the least allowed order with a sum, None if there is none."""
    check_both(nest, numbers)
    check_count(total, 0, GREATEST_SUM)
    rooms = room_masks(nest)
    if not can_sum(rooms, numbers, 0, total):
        return None
    order = ()
    mask = 0
    rest = total
    while mask != all_doors(rooms):
        door = least_with_sum(rooms, numbers, mask, rest)
        rest = rest - ones(mask & rooms[door])
        order = order + (door,)
        mask = mask | 1 << door
    return order


def least_with_sum(rooms, numbers, mask, total):
    """Return the least door to open next such that the ranks from then on can have a sum."""
    found = []
    for door in ready_at(rooms, numbers, mask):
        rank = ones(mask & rooms[door])
        if can_sum(rooms, numbers, mask | 1 << door, total - rank):
            found.append(door)
    return found[0]


def can_sum(rooms, numbers, mask, total):
    """Tell whether the ranks of the doors that are not in a mask can have a sum, from it on."""
    table = rank_sums(rooms, numbers, mask)
    return 0 <= total < len(table) and table[total] > 0


def rank_sums(rooms, numbers, mask):
    """Return, for each sum from 0 on, how many choices of ranks of the doors not in a mask have it.

    Each choice of a number for each of these doors, from the count of doors inside that are
    in the mask on, occurs as their ranks.
    """
    table = [1]
    for door in doors_of(all_doors(rooms) ^ mask):
        low, high = ones(mask & rooms[door]), ones(rooms[door])
        kept = [number for number in numbers[door] if low <= number <= high]
        longer = [0] * (len(table) + high)
        for number in kept:
            for total, many in enumerate(table):
                longer[total + number] = longer[total + number] + many
        table = longer
    return table
