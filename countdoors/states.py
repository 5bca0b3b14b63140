"""States: which doors are open, which can be opened, and in how many ways."""

from countdoors.common import (
    all_doors, check_both, check_nest, check_state, count_ways, doors_of, is_integer, mask_of, ones,
    ratio, ready_at, room_masks, safe_at, ways_left,
)


def open_inside(nest, state):
    """Return, for each door, how many doors inside its room are open."""
    check_nest(nest)
    check_state(nest, state)
    mask = mask_of(state)
    return tuple([ones(mask & room) for room in room_masks(nest)])


def ready(nest, numbers, state):
    """Return the ascending tuple of the closed doors that can be opened."""
    check_both(nest, numbers)
    check_state(nest, state)
    return tuple(ready_at(room_masks(nest), numbers, mask_of(state)))


def ways_on(nest, numbers, state):
    """Return the number of ways to open all closed doors, one behind another."""
    check_both(nest, numbers)
    check_state(nest, state)
    return ways_left(room_masks(nest), numbers, mask_of(state))


def lost_door(nest, numbers, state):
    """Return a closed door that can never be opened, None if the state is not lost."""
    check_both(nest, numbers)
    check_state(nest, state)
    found = lost_doors(nest, numbers, state)
    return found[0] if found else None


def shows_lost(nest, numbers, state, value):
    """Tell whether a value is what lost_door may return."""
    check_both(nest, numbers)
    check_state(nest, state)
    found = lost_doors(nest, numbers, state)
    if value is None:
        return not found
    return is_integer(value, 0, len(nest) - 1) and value in found


def lost_doors(nest, numbers, state):
    """Return the ascending list of the closed doors whose counts to come are none of their numbers."""
    rooms = room_masks(nest)
    mask = mask_of(state)
    found = []
    for door in doors_of(all_doors(rooms) ^ mask):
        low, high = ones(mask & rooms[door]), ones(rooms[door])
        if not any([low <= number <= high for number in numbers[door]]):
            found.append(door)
    return found


def next_chances(nest, numbers, state):
    """Return, for each door, which part of the ways to open all closed doors begins with it.

    None if there is no such way, or no closed door.
    """
    check_both(nest, numbers)
    check_state(nest, state)
    rooms = room_masks(nest)
    mask = mask_of(state)
    total = ways_left(rooms, numbers, mask)
    if total == 0 or mask == all_doors(rooms):
        return None
    chances = [(0, 1)] * len(nest)
    for door in ready_at(rooms, numbers, mask):
        chances[door] = ratio(ways_left(rooms, numbers, mask | 1 << door), total)
    return tuple(chances)


def safe_next(nest, numbers, state):
    """Return the ascending tuple of the ready doors behind whose opening the state is not lost."""
    check_both(nest, numbers)
    check_state(nest, state)
    return tuple(safe_at(room_masks(nest), numbers, mask_of(state)))


def ways_between(nest, numbers, one, other):
    """Return the number of ways to open just the doors that one state lacks of another one."""
    check_both(nest, numbers)
    check_state(nest, one)
    check_state(nest, other)
    return count_ways(room_masks(nest), numbers, mask_of(one), mask_of(other))


def met_count(nest, numbers):
    """Return the number of states that can be met."""
    check_both(nest, numbers)
    return len(met_masks(room_masks(nest), numbers))


def last_states(nest, numbers):
    """Return the ascending tuple of the states that can be met in which no door is ready."""
    check_both(nest, numbers)
    rooms = room_masks(nest)
    met = met_masks(rooms, numbers)
    return tuple(sorted([doors_of(mask) for mask in met if not ready_at(rooms, numbers, mask)]))


def is_safe(nest, numbers):
    """Tell whether no state that can be met is lost."""
    return first_lost(nest, numbers) is None


def first_lost(nest, numbers):
    """Return the least number of open doors in a lost state that can be met, and the least such state.

    None if there is no such state.
    """
    check_both(nest, numbers)
    rooms = room_masks(nest)
    met = met_masks(rooms, numbers)
    lost = [(ones(mask), doors_of(mask)) for mask in met if ways_left(rooms, numbers, mask) == 0]
    return min(lost) if lost else None


def met_masks(rooms, numbers):
    """Return the list of the masks of all states that can be met."""
    return [mask for mask in range(1 << len(rooms)) if count_ways(rooms, numbers, 0, mask) > 0]
