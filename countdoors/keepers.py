"""A keeper, who wants all doors open at last, and a thief, who does not, open doors in turn."""

from countdoors.common import (
    check_both, check_state, doors_of, is_integer, is_rising, mask_of, masks_over, ones, ready_at, room_masks,
)
from countdoors.errors import BadFlag


def kept_open(nest, numbers, state, is_first):
    """Tell whether the keeper can have all doors open at last."""
    return end_value(nest, numbers, state, is_first) == len(nest)


def keeper_plan(nest, numbers, is_first):
    """Return the ascending tuple of the pairs (state, door) by which the keeper has all doors open at last.

    It has those states alone that can be met by following it. None if there is no plan.
    """
    check_both(nest, numbers)
    check_flag(is_first)
    rooms = room_masks(nest)
    choices = good_choices(rooms, numbers)
    masks = masks_met(rooms, numbers, is_first, choices)
    if masks is None:
        return None
    return tuple(sorted([(doors_of(mask), choices[mask]) for mask in masks]))


def shows_plan(nest, numbers, is_first, value):
    """Tell whether a value is what keeper_plan may return."""
    check_both(nest, numbers)
    check_flag(is_first)
    if value is None:
        return not kept_open(nest, numbers, (), is_first)
    if not is_plan(nest, value):
        return False
    choices = {mask_of(state): door for state, door in value}
    masks = masks_met(room_masks(nest), numbers, is_first, choices)
    return masks is not None and len(masks) == len(choices)


def end_value(nest, numbers, state, is_first):
    """Return how many doors are open at the end if the keeper wants many and the thief few."""
    check_both(nest, numbers)
    check_state(nest, state)
    check_flag(is_first)
    mask = mask_of(state)
    return end_values(room_masks(nest), numbers, mask)[mask, is_first]


def check_flag(value):
    """Raise BadFlag unless a value is True or False."""
    if not isinstance(value, bool):
        raise BadFlag("a flag is True or False")


def is_plan(nest, value):
    """Tell whether a value is an ascending tuple of pairs of unlike states and doors."""
    if not isinstance(value, tuple) or not all([is_choice(nest, item) for item in value]):
        return False
    return all([one[0] < other[0] for one, other in zip(value, value[1:])])


def is_choice(nest, value):
    """Tell whether a value is a pair of a state and a door."""
    if not isinstance(value, tuple) or len(value) != 2:
        return False
    return is_rising(value[0], len(nest) - 1) and is_integer(value[1], 0, len(nest) - 1)


def end_values(rooms, numbers, start):
    """Return the dict of the end values of all (mask, whether the keeper is next), the masks holding one."""
    table = {}
    for mask in masks_over(rooms, start):
        doors = ready_at(rooms, numbers, mask)
        if not doors:
            table[mask, True] = ones(mask)
            table[mask, False] = ones(mask)
            continue
        table[mask, True] = max([table[mask | 1 << door, False] for door in doors])
        table[mask, False] = min([table[mask | 1 << door, True] for door in doors])
    return table


def good_choices(rooms, numbers):
    """Return the dict from masks to the least doors that keep all doors within the keeper's reach.

    It lacks the masks at which there is no such door.
    """
    table = end_values(rooms, numbers, 0)
    choices = {}
    for mask in masks_over(rooms, 0):
        good = [door for door in ready_at(rooms, numbers, mask) if table[mask | 1 << door, False] == len(rooms)]
        if good:
            choices[mask] = good[0]
    return choices


def masks_met(rooms, numbers, is_first, choices):
    """Return the list of the masks at which the keeper may have to open a door, by its choices.

    None if not all doors are open at last by these, whatever the thief opens.
    """
    met = []
    level = [0]
    is_keeper = is_first
    for _ in rooms:
        behind = []
        for mask in level:
            doors = ready_at(rooms, numbers, mask)
            if is_keeper:
                met.append(mask)
                doors = [door for door in doors if door == choices.get(mask)]
            if not doors:
                return None
            for door in doors:
                behind.append(mask | 1 << door)
        level = sorted(set(behind))
        is_keeper = not is_keeper
    return met
