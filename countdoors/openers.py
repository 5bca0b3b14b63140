"""A chance opener, who opens one of the ready doors, all equally likely, as long as there is one."""

from countdoors.common import (
    all_doors, check_both, check_order, doors_of, plus, ratio, ready_at, room_masks,
)


def all_chance(nest, numbers):
    """Return the chance that all doors are open at last."""
    check_both(nest, numbers)
    rooms = room_masks(nest)
    return chances_met(rooms, numbers, equal_weights(nest)).get(all_doors(rooms), (0, 1))


def end_chances(nest, numbers):
    """Return the ascending tuple of the pairs (state, chance) of the states in which no door is ready."""
    check_both(nest, numbers)
    return last_chances(nest, numbers, equal_weights(nest))


def mean_open(nest, numbers):
    """Return the mean number of doors that are open at last."""
    check_both(nest, numbers)
    mean = (0, 1)
    for state, (top, bottom) in last_chances(nest, numbers, equal_weights(nest)):
        mean = plus(mean, (len(state) * top, bottom))
    return mean


def order_chance(nest, numbers, order):
    """Return the chance that all doors are opened in an order."""
    check_both(nest, numbers)
    check_order(nest, order)
    rooms = room_masks(nest)
    ways = 1
    mask = 0
    for door in order:
        doors = ready_at(rooms, numbers, mask)
        if door not in doors:
            return 0, 1
        ways = ways * len(doors)
        mask = mask | 1 << door
    return 1, ways


def equal_weights(nest):
    """Return the weights with which all ready doors are equally likely."""
    return (1,) * len(nest)


def chances_met(rooms, numbers, weights):
    """Return the dict of the chances to meet the masks, of all that can be met.

    Of the ready doors each is opened with a chance of its weight by the sum of theirs.
    """
    chances = {0: (1, 1)}
    # Behind each mask come only greater ones, so its chance is complete when its turn comes.
    for mask in range(all_doors(rooms)):
        if mask in chances:
            for door, chance in opening_chances(rooms, numbers, weights, mask, chances[mask]):
                before = chances.get(mask | 1 << door, (0, 1))
                chances[mask | 1 << door] = plus(before, chance)
    return chances


def opening_chances(rooms, numbers, weights, mask, chance):
    """Return the list of the pairs (door, chance) of the doors that may be opened next.

    A mask is met with a chance; the chances are that it is met and the door is opened then.
    """
    doors = ready_at(rooms, numbers, mask)
    total = sum([weights[door] for door in doors])
    return [(door, ratio(chance[0] * weights[door], chance[1] * total)) for door in doors]


def last_chances(nest, numbers, weights):
    """Return the ascending tuple of the pairs (state, chance) of the states in which no door is ready."""
    rooms = room_masks(nest)
    chances = chances_met(rooms, numbers, weights)
    return tuple(sorted([
        (doors_of(mask), chance) for mask, chance in chances.items() if not ready_at(rooms, numbers, mask)
    ]))
