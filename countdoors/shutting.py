"""Doors that may also be shut, while the count inside is one of their numbers."""

from countdoors.common import (
    check_both, check_state, doors_of, mask_of, ones, room_masks,
)


def steps_between(nest, numbers, one, other):
    """Return the least number of steps from one state to another one, None if there is no way."""
    check_both(nest, numbers)
    check_state(nest, one)
    check_state(nest, other)
    return steps_from(room_masks(nest), numbers, mask_of(one)).get(mask_of(other))


def way_between(nest, numbers, one, other):
    """Return the least tuple of doors of as few steps as can be, None if there is no way."""
    check_both(nest, numbers)
    check_state(nest, one)
    check_state(nest, other)
    rooms = room_masks(nest)
    # Each step can be taken back, so these are also the steps that remain.
    steps = steps_from(rooms, numbers, mask_of(other))
    mask = mask_of(one)
    if mask not in steps:
        return None
    way = ()
    while steps[mask] > 0:
        doors = [door for door in moved_at(rooms, numbers, mask) if steps[mask ^ 1 << door] < steps[mask]]
        way = way + (doors[0],)
        mask = mask ^ 1 << doors[0]
    return way


def joined_states(nest, numbers, state):
    """Return the number of states to which there is a way from a state, itself included."""
    check_both(nest, numbers)
    check_state(nest, state)
    return len(steps_from(room_masks(nest), numbers, mask_of(state)))


def farthest_states(nest, numbers, state):
    """Return the pair of the greatest least number of steps to a state, and the states so far away."""
    check_both(nest, numbers)
    check_state(nest, state)
    steps = steps_from(room_masks(nest), numbers, mask_of(state))
    most = max(steps.values())
    return most, tuple(sorted([doors_of(mask) for mask, many in steps.items() if many == most]))


def parts_of_states(nest, numbers):
    """Return the ascending tuple of the numbers of states in all parts between which there are ways."""
    check_both(nest, numbers)
    rooms = room_masks(nest)
    seen = {}
    parts = []
    for mask in range(1 << len(nest)):
        if mask not in seen:
            part = steps_from(rooms, numbers, mask)
            parts.append(len(part))
            for other in part:
                seen[other] = True
    return tuple(sorted(parts))


def moved_at(rooms, numbers, mask):
    """Return the ascending list of the doors that can be opened or shut while those of a mask are open."""
    return [door for door, room in enumerate(rooms) if ones(mask & room) in numbers[door]]


def steps_from(rooms, numbers, start):
    """Return the dict of the least numbers of steps to all masks to which there is a way."""
    steps = {start: 0}
    level = [start]
    while level:
        behind = []
        for mask in level:
            for door in moved_at(rooms, numbers, mask):
                other = mask ^ 1 << door
                if other not in steps:
                    steps[other] = steps[mask] + 1
                    behind.append(other)
        level = behind
    return steps
