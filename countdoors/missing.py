"""Doors whose ranks in an order are none of their numbers, and numbers that are put in."""

from countdoors.common import check_both, check_order, least_rest, room_masks
from countdoors.nests import free_numbers, kept_numbers, mixings, sizes
from countdoors.orders import ranks


def missing(nest, numbers, order):
    """Return the ascending tuple of the pairs (door, rank) of the doors whose rank is none of their numbers."""
    check_both(nest, numbers)
    check_order(nest, order)
    return tuple([
        (door, rank) for door, rank in enumerate(ranks(nest, order)) if rank not in numbers[door]
    ])


def orders_by_missing(nest, numbers):
    """Return the tuple of the numbers of orders, allowed or not, in which 0, 1, .. doors are missing."""
    check_both(nest, numbers)
    counts = [mixings(nest)]
    for some, size in zip(kept_numbers(nest, numbers), sizes(nest)):
        # A door has its ranks equally often, whatever the ranks of all others are.
        there, lacking = len(some), size - len(some)
        counts = [
            there * many + lacking * fewer for many, fewer in zip(counts + [0], [0] + counts)
        ]
    return tuple(counts)


def mended(nest, numbers, order):
    """Return the numbers with those put in that are missing in an order."""
    lacking = missing(nest, numbers, order)
    return with_more(numbers, lacking)


def made_safe(nest, numbers):
    """Return the numbers with as few more as can be such that no state that can be met is lost."""
    check_both(nest, numbers)
    return with_more(numbers, [(door, size - 1) for door, size in enumerate(sizes(nest))])


def least_missing(nest, numbers):
    """Return the least number of doors missing in an order, and the least order with so few."""
    check_both(nest, numbers)
    kept = kept_numbers(nest, numbers)
    # Only the doors without a number that they can use are missing, and these may stand anywhere.
    usable = [some if some else free for some, free in zip(kept, free_numbers(nest))]
    many = len([some for some in kept if not some])
    return many, least_rest(room_masks(nest), usable, 0)


def with_more(numbers, pairs):
    """Return the numbers with more, given by pairs (door, number), which they may have already."""
    rows = list(numbers)
    for door, number in pairs:
        rows[door] = tuple(sorted(set(rows[door] + (number,))))
    return tuple(rows)
