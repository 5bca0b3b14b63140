"""Rounds, in each of which several ready doors are opened at once."""

from countdoors.common import (
    all_doors, check_both, check_state, doors_of, is_rising, mask_of, ready_at, room_masks, ways_left,
)


def least_rounds(nest, numbers, state):
    """Return the least number of rounds that open all closed doors, None if there are none."""
    plan = rounds_plan(nest, numbers, state)
    return None if plan is None else len(plan)


def rounds_plan(nest, numbers, state):
    """Return rounds, as few as can be, that open all closed doors, None if there are none."""
    check_both(nest, numbers)
    check_state(nest, state)
    rooms = room_masks(nest)
    start = mask_of(state)
    before = masks_before(rooms, numbers, start)
    mask = all_doors(rooms)
    if mask not in before:
        return None
    plan = ()
    while mask != start:
        plan = (doors_of(mask ^ before[mask]),) + plan
        mask = before[mask]
    return plan


def shows_rounds(nest, numbers, state, value):
    """Tell whether a value is rounds, few or many, that open all closed doors, or None if there are none."""
    check_both(nest, numbers)
    check_state(nest, state)
    rooms = room_masks(nest)
    mask = mask_of(state)
    if value is None:
        # Doors that are opened at once can as well be opened one by one, from the outsides on.
        return ways_left(rooms, numbers, mask) == 0
    if not isinstance(value, tuple):
        return False
    for lot in value:
        if not is_lot(ready_at(rooms, numbers, mask), lot):
            return False
        mask = mask | mask_of(lot)
    return mask == all_doors(rooms)


def greedy_state(nest, numbers, state):
    """Return the state behind rounds in each of which all ready doors are opened, until none is ready."""
    check_both(nest, numbers)
    check_state(nest, state)
    rooms = room_masks(nest)
    mask = mask_of(state)
    doors = ready_at(rooms, numbers, mask)
    while doors:
        mask = mask | mask_of(doors)
        doors = ready_at(rooms, numbers, mask)
    return doors_of(mask)


def is_lot(doors, value):
    """Tell whether a value is an ascending tuple of at least one of some doors."""
    if not doors or value == () or not is_rising(value, doors[-1]):
        return False
    return all([door in doors for door in value])


def masks_before(rooms, numbers, start):
    """Return the dict, for each mask behind rounds from a mask on, of the mask one round before it.

    Following it back, the rounds are as few as can be.
    """
    before = {start: start}
    level = [start]
    while level:
        behind = []
        for mask in level:
            for lot in lots_of(mask_of(ready_at(rooms, numbers, mask))):
                if mask | lot not in before:
                    before[mask | lot] = mask
                    behind.append(mask | lot)
        level = behind
    return before


def lots_of(mask):
    """Return the list of all masks of at least one of the doors in a mask."""
    lots = []
    lot = mask
    while lot:
        lots.append(lot)
        # The next lesser one of those masks that hold no other doors.
        lot = (lot - 1) & mask
    return lots
