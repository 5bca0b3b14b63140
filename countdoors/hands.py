"""Two hands that open doors in turn; whoever has to open one and cannot loses."""

from countdoors.common import (
    check_both, check_state, mask_of, masks_over, ready_at, room_masks,
)


def last_hand(nest, numbers, state):
    """Tell whether the hand that opens first from a state on can win."""
    return worth(nest, numbers, state) > 0


def winning_doors(nest, numbers, state):
    """Return the ascending tuple of the doors behind whose opening the other hand cannot win."""
    check_both(nest, numbers)
    check_state(nest, state)
    rooms = room_masks(nest)
    mask = mask_of(state)
    table = worths(rooms, numbers, mask)
    return tuple([door for door in ready_at(rooms, numbers, mask) if table[mask | 1 << door] == 0])


def worth(nest, numbers, state):
    """Return the least integer from 0 on that is not the worth of a state one door further."""
    check_both(nest, numbers)
    check_state(nest, state)
    mask = mask_of(state)
    return worths(room_masks(nest), numbers, mask)[mask]


def worths(rooms, numbers, start):
    """Return the dict of the worths of all masks that hold a mask."""
    table = {}
    for mask in masks_over(rooms, start):
        behind = [table[mask | 1 << door] for door in ready_at(rooms, numbers, mask)]
        table[mask] = least_missing(behind)
    return table


def least_missing(found):
    """Return the least integer from 0 on that is not in a list."""
    least = 0
    while least in found:
        least = least + 1
    return least
