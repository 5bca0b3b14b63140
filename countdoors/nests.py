"""Nests of rooms, and numbers for their doors."""

from countdoors.common import (
    check_both, check_door, check_nest, doors_of, has_door, ones, room_masks, ways_left,
)


def inside(nest, door):
    """Return the ascending tuple of the doors of all rooms that lie in the room of a door."""
    check_nest(nest)
    check_door(nest, door)
    return doors_of(room_masks(nest)[door])


def around(nest, door):
    """Return the ascending tuple of the doors of all rooms in which the room of a door lies."""
    check_nest(nest)
    check_door(nest, door)
    return around_in(room_masks(nest), door)


def at_once(nest, door):
    """Return the ascending tuple of the doors of the rooms that lie at once in the room of a door.

    For None these are the rooms that lie in no other one.
    """
    check_nest(nest)
    if door is not None:
        check_door(nest, door)
    return tuple([inner for inner, outer in enumerate(nest) if outer == door])


def sizes(nest):
    """Return the tuple of the numbers of doors in each room, its own door included."""
    check_nest(nest)
    return tuple([ones(room) + 1 for room in room_masks(nest)])


def depths(nest):
    """Return the tuple of the numbers of rooms in which each room lies."""
    check_nest(nest)
    rooms = room_masks(nest)
    return tuple([len(around_in(rooms, door)) for door in range(len(nest))])


def mixings(nest):
    """Return the number of orders that have the same ranks, whatever these are."""
    check_nest(nest)
    # All ranks are equally frequent, so it is enough to count the orders with the ranks 0.
    return ways_left(room_masks(nest), first_numbers(nest), 0)


def free_numbers(nest):
    """Return the numbers in which each door has all integers less than its size."""
    return tuple([tuple(range(size)) for size in sizes(nest)])


def last_numbers(nest):
    """Return the numbers in which each door has its size less 1 alone."""
    return tuple([(size - 1,) for size in sizes(nest)])


def first_numbers(nest):
    """Return the numbers in which each door has 0 alone."""
    return tuple([(0,) for _ in sizes(nest)])


def kept_numbers(nest, numbers):
    """Return, for each door, those of its numbers that are less than its size."""
    check_both(nest, numbers)
    return tuple([
        tuple([number for number in some if number < size])
        for some, size in zip(numbers, sizes(nest))
    ])


def around_in(rooms, door):
    """Return the ascending tuple of the doors of the rooms in which the room of a door lies."""
    return tuple([outer for outer, room in enumerate(rooms) if has_door(room, door)])
