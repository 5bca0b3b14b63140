"""Numbers that allow a wished count of orders, and few orders that tell all numbers."""

from countdoors.common import (
    are_orders, check_both, check_count, check_nest, is_rising,
)
from countdoors.nests import kept_numbers, mixings, sizes
from countdoors.orders import order_count, ranks, with_ranks
from countdoors.telling import ranks_of

MOST_WISHED = 1000000


def numbers_with(nest, count):
    """Return numbers, less than the sizes, that allow just so many orders, None if there are none."""
    check_nest(nest)
    check_count(count, 1, MOST_WISHED)
    row = factors_with(nest, count)
    if row is None:
        return None
    return tuple([tuple(range(many)) for many in row])


def shows_numbers_with(nest, count, value):
    """Tell whether a value is what numbers_with may return."""
    check_nest(nest)
    check_count(count, 1, MOST_WISHED)
    if value is None:
        return factors_with(nest, count) is None
    return are_kept(nest, value) and order_count(nest, value) == count


def covering(nest, numbers):
    """Return the ascending tuple of as few allowed orders as can be that have all kept numbers as ranks.

    None if no order is allowed.
    """
    check_both(nest, numbers)
    if order_count(nest, numbers) == 0:
        return None
    kept = kept_numbers(nest, numbers)
    # Ranks can be chosen for each door by itself, so one order tells one more rank of each door.
    rows = [tuple([some[at % len(some)] for some in kept]) for at in range(most_kept(kept))]
    return tuple(sorted([with_ranks(nest, row) for row in rows]))


def shows_covering(nest, numbers, value):
    """Tell whether a value is what covering may return."""
    check_both(nest, numbers)
    if order_count(nest, numbers) == 0:
        return value is None
    kept = kept_numbers(nest, numbers)
    if not are_orders(len(nest), value) or len(value) != most_kept(kept):
        return False
    rows = [ranks(nest, order) for order in value]
    return all([ranks_of(rows, door) == some for door, some in enumerate(kept)])


def factors_with(nest, count):
    """Return for how many numbers of each door just so many orders are allowed, None if there is no way."""
    times = mixings(nest)
    if count % times != 0:
        return None
    wished = count // times
    found = {1: ()}
    for size in sizes(nest):
        longer = {}
        for product, row in found.items():
            for many in range(1, size + 1):
                if wished % (product * many) == 0:
                    longer[product * many] = row + (many,)
        found = longer
    return found.get(wished)


def are_kept(nest, value):
    """Tell whether a value is numbers for a nest, each less than the size of its door."""
    if not isinstance(value, tuple) or len(value) != len(nest):
        return False
    return all([is_rising(some, size - 1) for some, size in zip(value, sizes(nest))])


def most_kept(kept):
    """Return how many numbers the door with the most of them has."""
    return max([len(some) for some in kept])
