"""Orders that become one another by exchanges of two doors that follow one another."""

from countdoors.common import check_both, check_nest, check_order
from countdoors.listing import all_orders
from countdoors.orders import allows


def beside(nest, numbers, order):
    """Return the ascending tuple of the allowed orders that are one exchange away from an order."""
    check_both(nest, numbers)
    check_order(nest, order)
    return tuple(sorted([other for other in exchanged(order) if allows(nest, numbers, other)]))


def swaps(nest, numbers, one, other):
    """Return the least number of exchanges from one order to another one, through allowed orders alone.

    None if there is no such way, or one of them is not allowed.
    """
    check_both(nest, numbers)
    check_order(nest, one)
    check_order(nest, other)
    allowed = {order: True for order in all_orders(nest, numbers)}
    if one not in allowed:
        return None
    return steps_from(allowed, one).get(other)


def joined_parts(nest, numbers):
    """Return the ascending tuple of the numbers of orders in all parts between which there are ways."""
    orders = all_orders(nest, numbers)
    allowed = {order: True for order in orders}
    seen = {}
    parts = []
    for order in orders:
        if order not in seen:
            part = steps_from(allowed, order)
            parts.append(len(part))
            for other in part:
                seen[other] = True
    return tuple(sorted(parts))


def turned_between(nest, one, other):
    """Return the number of pairs of doors that stand the other way round in another order."""
    check_nest(nest)
    check_order(nest, one)
    check_order(nest, other)
    return turns(one, other)


def to_allowed(nest, numbers, order):
    """Return the least number of exchanges from an order to an allowed one, and the least such order.

    The orders on the way need not be allowed. None if no order is.
    """
    check_both(nest, numbers)
    check_order(nest, order)
    # Each exchange turns one pair of doors, so as many are needed as pairs are turned.
    found = [(turns(order, other), other) for other in all_orders(nest, numbers)]
    return min(found) if found else None


def exchanged(order):
    """Return the list of the orders that are one exchange away from an order, allowed or not."""
    return [order[:at] + (order[at + 1], order[at]) + order[at + 2:] for at in range(len(order) - 1)]


def steps_from(allowed, start):
    """Return the dict of the least numbers of exchanges to all allowed orders to which there is a way."""
    steps = {start: 0}
    level = [start]
    while level:
        behind = []
        for order in level:
            for other in exchanged(order):
                if other in allowed and other not in steps:
                    steps[other] = steps[order] + 1
                    behind.append(other)
        level = behind
    return steps


def turns(one, other):
    """Return the number of pairs of doors that stand the other way round in another order."""
    places = [other.index(door) for door in one]
    return len([
        place for at, place in enumerate(places) for further in places[at + 1:] if further < place
    ])
