"""A weighted opener, who opens ready doors with chances by their weights, as long as there is one."""

from countdoors.common import (
    check_both, check_door, has_door, is_integer, plus, room_masks,
)
from countdoors.errors import BadDoor, BadWeights
from countdoors.openers import chances_met, last_chances, opening_chances

GREATEST_WEIGHT = 100


def weighted_ends(nest, numbers, weights):
    """Return the ascending tuple of the pairs (state, chance) of the states in which no door is ready."""
    check_both(nest, numbers)
    check_weights(nest, weights)
    return last_chances(nest, numbers, weights)


def weighted_first(nest, numbers, weights, one, other):
    """Return the chance that a door is opened, and ahead of another one if that is opened, too."""
    check_both(nest, numbers)
    check_weights(nest, weights)
    check_door(nest, one)
    check_door(nest, other)
    if one == other:
        raise BadDoor("a door is not opened ahead of itself")
    rooms = room_masks(nest)
    total = (0, 1)
    for mask, met in chances_met(rooms, numbers, weights).items():
        if not has_door(mask, other):
            for door, chance in opening_chances(rooms, numbers, weights, mask, met):
                if door == one:
                    total = plus(total, chance)
    return total


def check_weights(nest, weights):
    """Raise BadWeights unless a value is weights for a nest."""
    if not isinstance(weights, tuple) or len(weights) != len(nest):
        raise BadWeights("weights are a tuple with one item for each door")
    if not all([is_integer(weight, 1, GREATEST_WEIGHT) for weight in weights]):
        raise BadWeights("a weight is an integer from 1 to 100")
