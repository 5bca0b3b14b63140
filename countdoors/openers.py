"""A chance opener, who opens one of the ready doors, all equally likely, as long as there is one."""

from countdoors.common import (
    all_doors, check_both, check_order, doors_of, ones, plus, ratio, ready_at, room_masks,
)


def all_chance(nest, numbers):
    """Return the chance that all doors are open at last."""
    check_both(nest, numbers)
    rooms = room_masks(nest)
    return chances_met(rooms, numbers).get(all_doors(rooms), (0, 1))


def end_chances(nest, numbers):
    """Return the ascending tuple of the pairs (state, chance) of the states in which no door is ready."""
    check_both(nest, numbers)
    return tuple(sorted([(doors_of(mask), chance) for mask, chance in last_chances(nest, numbers)]))


def mean_open(nest, numbers):
    """Return the mean number of doors that are open at last."""
    check_both(nest, numbers)
    mean = (0, 1)
    for mask, chance in last_chances(nest, numbers):
        mean = plus(mean, (ones(mask) * chance[0], chance[1]))
    return mean


def order_chance(nest, numbers, order):
    """Return the chance that all doors are opened in an order."""
    check_both(nest, numbers)
    check_order(nest, order)
    rooms = room_masks(nest)
    ways = 1
    mask = 0
    for door in order:
        doors = ready_at(rooms, numbers, mask)
        if door not in doors:
            return 0, 1
        ways = ways * len(doors)
        mask = mask | 1 << door
    return 1, ways


def chances_met(rooms, numbers):
    """Return the dict of the chances to meet the masks, of all that can be met."""
    chances = {0: (1, 1)}
    # Behind each mask come only greater ones, so its chance is complete when its turn comes.
    for mask in range(all_doors(rooms)):
        if mask in chances:
            doors = ready_at(rooms, numbers, mask)
            top, bottom = chances[mask]
            for door in doors:
                before = chances.get(mask | 1 << door, (0, 1))
                chances[mask | 1 << door] = plus(before, ratio(top, bottom * len(doors)))
    return chances


def last_chances(nest, numbers):
    """Return the list of the pairs (mask, chance) of the masks at which no door is ready."""
    rooms = room_masks(nest)
    chances = chances_met(rooms, numbers)
    return [(mask, chance) for mask, chance in chances.items() if not ready_at(rooms, numbers, mask)]
