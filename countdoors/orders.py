"""Orders in which doors are opened, and ranks of doors in them."""

from countdoors.common import (
    check_both, check_door, check_nest, check_order, check_rank, check_ranks, has_door,
    least_rest, ones, room_masks, ways_left,
)


def ranks(nest, order):
    """Return, for each door, how many doors inside its room stand before it in an order."""
    check_nest(nest)
    check_order(nest, order)
    rooms = room_masks(nest)
    found = [0] * len(nest)
    mask = 0
    for door in order:
        found[door] = ones(mask & rooms[door])
        mask = mask | 1 << door
    return tuple(found)


def order_inside(nest, order, door):
    """Return the order of the doors inside the room of a door alone, its own door included."""
    check_nest(nest)
    check_order(nest, order)
    check_door(nest, door)
    kept = room_masks(nest)[door] | 1 << door
    return tuple([other for other in order if has_door(kept, other)])


def allows(nest, numbers, order):
    """Tell whether the doors can be opened in an order."""
    check_both(nest, numbers)
    return all([rank in some for rank, some in zip(ranks(nest, order), numbers)])


def order_count(nest, numbers):
    """Return the number of orders in which the doors can be opened."""
    check_both(nest, numbers)
    return ways_left(room_masks(nest), numbers, 0)


def with_ranks(nest, some):
    """Return the least order in which the doors have some ranks."""
    check_nest(nest)
    check_ranks(nest, some)
    return least_rest(room_masks(nest), [(rank,) for rank in some], 0)


def put_in(nest, order, door, rank):
    """Return the order in which a door is moved to the earliest place at which it has a rank."""
    check_nest(nest)
    check_order(nest, order)
    check_door(nest, door)
    check_rank(nest, door, rank)
    others = tuple([other for other in order if other != door])
    room = room_masks(nest)[door]
    at = 0
    ahead = 0
    while ahead < rank:
        if has_door(room, others[at]):
            ahead = ahead + 1
        at = at + 1
    return others[:at] + (door,) + others[at:]
