"""Times of doors if all ways to open the closed doors are equally likely."""

from countdoors.common import (
    check_both, check_door, check_state, count_ways, has_door, mask_of, ones, ratio,
    ready_at, room_masks, ways_left,
)
from countdoors.errors import BadDoor


def time_chances(nest, numbers, state, door):
    """Return the chances that a closed door has the times from 0 on, None if the state is lost."""
    check_both(nest, numbers)
    check_state(nest, state)
    check_closed(nest, state, door)
    counts = time_counts(nest, numbers, state, door)
    total = sum(counts)
    if total == 0:
        return None
    return tuple([ratio(many, total) for many in counts])


def mean_times(nest, numbers, state):
    """Return the mean time of each door, None for open ones; None if the state is lost."""
    check_both(nest, numbers)
    check_state(nest, state)
    total = ways_left(room_masks(nest), numbers, mask_of(state))
    if total == 0:
        return None
    sums = [0] * len(nest)
    for mask, door, many in openings(nest, numbers, state):
        sums[door] = sums[door] + ones(mask) * many
    return tuple([None if door in state else ratio(sums[door], total) for door in range(len(nest))])


def ahead_chance(nest, numbers, state, one, other):
    """Return the chance that a closed door stands before another one, None if the state is lost."""
    check_both(nest, numbers)
    check_state(nest, state)
    check_closed(nest, state, one)
    check_closed(nest, state, other)
    if one == other:
        raise BadDoor("a door does not stand before itself")
    total = ways_left(room_masks(nest), numbers, mask_of(state))
    if total == 0:
        return None
    ahead = [
        many for mask, door, many in openings(nest, numbers, state)
        if door == one and not has_door(mask, other)
    ]
    return ratio(sum(ahead), total)


def check_closed(nest, state, door):
    """Raise BadDoor unless a value is a door that is closed in a state."""
    check_door(nest, door)
    if door in state:
        raise BadDoor("this door is open")


def time_counts(nest, numbers, state, door):
    """Return the list of the numbers of ways in which a closed door has the times from 0 on."""
    counts = [0] * len(nest)
    for mask, opened, many in openings(nest, numbers, state):
        if opened == door:
            counts[ones(mask)] = counts[ones(mask)] + many
    return counts


def openings(nest, numbers, state):
    """Return the list of all (mask, door, many).

    In so many of all ways to open the closed doors, just the doors of the mask are open when
    the door is opened.
    """
    rooms = room_masks(nest)
    start = mask_of(state)
    left = [ways_left(rooms, numbers, mask) for mask in range(1 << len(nest))]
    found = []
    for mask in range(start, 1 << len(nest)):
        many = count_ways(rooms, numbers, start, mask)
        if many > 0:
            for door in ready_at(rooms, numbers, mask):
                found.append((mask, door, many * left[mask | 1 << door]))
    return found
