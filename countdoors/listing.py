"""The allowed orders one by one, and numbers for more orders or doors."""

from countdoors.common import (
    LAST_NUMBER, MOST_DOORS, allowed_orders, check_both, check_door, check_few, check_order, is_integer, is_rising,
    least_rest, mask_of, ready_at, room_masks, safe_at, ways_left,
)
from countdoors.errors import BadIndex, BadNumbers, TooMany
from countdoors.orders import allows

MOST_ORDERS = 2000


def order_number(nest, numbers, order):
    """Return the number of allowed orders less than an allowed order, None for another one."""
    check_both(nest, numbers)
    check_order(nest, order)
    if not allows(nest, numbers, order):
        return None
    rooms = room_masks(nest)
    number = 0
    mask = 0
    for door in order:
        lesser = [other for other in ready_at(rooms, numbers, mask) if other < door]
        number = number + sum([ways_left(rooms, numbers, mask | 1 << other) for other in lesser])
        mask = mask | 1 << door
    return number


def order_at(nest, numbers, index):
    """Return the allowed order with a number, counted from 0."""
    check_both(nest, numbers)
    rooms = room_masks(nest)
    if not is_integer(index, 0, ways_left(rooms, numbers, 0) - 1):
        raise BadIndex("there is no order with this number")
    order = ()
    rest = index
    while len(order) < len(nest):
        door, rest = door_at(rooms, numbers, mask_of(order), rest)
        order = order + (door,)
    return order


def door_at(rooms, numbers, mask, index):
    """Return the door with which the way with an index begins, and its index among the ways that do."""
    rest = index
    for door in ready_at(rooms, numbers, mask):
        many = ways_left(rooms, numbers, mask | 1 << door)
        if rest < many:
            break
        rest = rest - many
    return door, rest


def next_order(nest, numbers, order):
    """Return the least allowed order that is greater than an order, None if there is none."""
    check_both(nest, numbers)
    check_order(nest, order)
    rooms = room_masks(nest)
    # The longer the part that both have in common, the less is the greater order.
    for at in reversed(range(ready_length(rooms, numbers, order))):
        mask = mask_of(order[:at])
        for door in safe_at(rooms, numbers, mask):
            if door > order[at]:
                return order[:at] + (door,) + least_rest(rooms, numbers, mask | 1 << door)
    return None


def ready_length(rooms, numbers, order):
    """Return how many places of an order can be reached: all doors before them can be opened."""
    mask = 0
    for at, door in enumerate(order):
        if door not in ready_at(rooms, numbers, mask):
            return at + 1
        mask = mask | 1 << door
    return len(order)


def all_orders(nest, numbers):
    """Return the list of all allowed orders, ascending."""
    check_both(nest, numbers)
    check_few(nest, numbers, MOST_ORDERS)
    return allowed_orders(room_masks(nest), numbers)


def widened(nest, numbers, door, number):
    """Return the numbers with one more for a door."""
    check_both(nest, numbers)
    check_door(nest, door)
    if not is_integer(number, 0, LAST_NUMBER):
        raise BadIndex("a number is an integer from 0 to 8")
    more = tuple(sorted(set(numbers[door] + (number,))))
    return numbers[:door] + (more,) + numbers[door + 1:]


def closed_in(nest, numbers, some):
    """Return the pair of a nest and numbers with one door more, around all others, with some numbers."""
    check_both(nest, numbers)
    if not is_rising(some, LAST_NUMBER):
        raise BadNumbers(None)
    if len(nest) == MOST_DOORS:
        raise TooMany(MOST_DOORS)
    last = len(nest)
    inner = tuple([last if outer is None else outer for outer in nest])
    return inner + (None,), numbers + (some,)
