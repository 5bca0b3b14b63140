"""Numbers told by orders that they allow."""

from countdoors.common import check_nest, check_told, is_order
from countdoors.listing import next_order, order_at
from countdoors.orders import allows, order_count, ranks


def least_numbers(nest, told):
    """Return the numbers, as few as can be, that allow all told orders."""
    check_nest(nest)
    check_told(len(nest), told)
    rows = [ranks(nest, order) for order in told]
    return tuple([ranks_of(rows, door) for door in range(len(nest))])


def told_count(nest, told):
    """Return how many orders the least numbers of told orders allow."""
    return order_count(nest, least_numbers(nest, told))


def third_order(nest, told):
    """Return an order that the least numbers allow and that is not told, None if there is none."""
    numbers = least_numbers(nest, told)
    order = order_at(nest, numbers, 0)
    while order in told:
        order = next_order(nest, numbers, order)
    return order


def shows_third(nest, told, value):
    """Tell whether a value is what third_order may return."""
    numbers = least_numbers(nest, told)
    if value is None:
        return order_count(nest, numbers) == len(told)
    return is_order(len(nest), value) and value not in told and allows(nest, numbers, value)


def parting(nest, yes, no):
    """Return the least numbers that allow told orders, None if they allow one of other told orders."""
    check_nest(nest)
    check_told(len(nest), yes)
    check_told(len(nest), no)
    numbers = least_numbers(nest, yes)
    if any([allows(nest, numbers, order) for order in no]):
        return None
    return numbers


def parting_doors(nest, yes, no):
    """Return, for each order of no, the ascending tuple of the doors whose rank no order of yes has."""
    check_nest(nest)
    check_told(len(nest), yes)
    check_told(len(nest), no)
    numbers = least_numbers(nest, yes)
    return tuple([doors_apart(numbers, ranks(nest, order)) for order in no])


def ranks_of(rows, door):
    """Return the ascending tuple of the unlike ranks that a door has in rows of ranks."""
    return tuple(sorted({row[door] for row in rows}))


def doors_apart(numbers, row):
    """Return the ascending tuple of the doors whose rank in a row is none of their numbers."""
    return tuple([door for door, rank in enumerate(row) if rank not in numbers[door]])
