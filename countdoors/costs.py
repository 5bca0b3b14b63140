"""Costs of orders: a door costs its price times one more than the number of doors before it."""

from countdoors.common import (
    all_doors, check_both, doors_of, is_integer, is_rising, is_whole, mask_of, masks_over, ones,
    ratio, ready_at, room_masks, ways_left,
)
from countdoors.errors import BadPrices
from countdoors.states import met_masks
from countdoors.times import openings

GREATEST_PRICE = 1000


def least_cost(nest, numbers, prices):
    """Return the pair of the least cost of an allowed order and the least such order, None without any."""
    check_both(nest, numbers)
    check_prices(nest, prices)
    rooms = room_masks(nest)
    rests = least_rests(rooms, numbers, prices)
    if 0 not in rests:
        return None
    order = ()
    mask = 0
    while mask != all_doors(rooms):
        doors = [
            door for door in kept_doors(rooms, numbers, mask, rests)
            if rests[mask] == rests[mask | 1 << door] + cost_of(prices, mask, door)
        ]
        order = order + (doors[0],)
        mask = mask | 1 << doors[0]
    return rests[0], order


def mean_cost(nest, numbers, prices):
    """Return the mean of the costs of all allowed orders as a ratio, None without any."""
    check_both(nest, numbers)
    check_prices(nest, prices)
    many = ways_left(room_masks(nest), numbers, 0)
    if many == 0:
        return None
    total = sum([times * cost_of(prices, mask, door) for mask, door, times in openings(nest, numbers, ())])
    return ratio(total, many)


def cost_paper(nest, numbers, prices):
    """Return a paper that shows that no order costs less than the least cost, None without any order.

    It has a pair (state, value) for each state that can be met and is not lost.
    """
    check_both(nest, numbers)
    check_prices(nest, prices)
    rooms = room_masks(nest)
    rests = least_rests(rooms, numbers, prices)
    if 0 not in rests:
        return None
    return tuple(sorted([(doors_of(mask), rests[mask]) for mask in met_masks(rooms, numbers) if mask in rests]))


def shows_cost_paper(nest, numbers, prices, value):
    """Tell whether a value is what cost_paper may return."""
    paper = cost_paper(nest, numbers, prices)
    if paper is None or value is None:
        return paper is None and value is None
    if not is_paper(nest, value) or [pair[0] for pair in value] != [pair[0] for pair in paper]:
        return False
    values = {mask_of(state): worth for state, worth in value}
    rooms = room_masks(nest)
    if values[all_doors(rooms)] != 0 or values[0] != paper[0][1]:
        return False
    return all([is_low(rooms, numbers, prices, mask, values) for mask in values])


def check_prices(nest, prices):
    """Raise BadPrices unless a value is prices for a nest."""
    if not isinstance(prices, tuple) or len(prices) != len(nest):
        raise BadPrices("prices are a tuple with one item for each door")
    if not all([is_integer(price, 0, GREATEST_PRICE) for price in prices]):
        raise BadPrices("a price is an integer from 0 to 1000")


def is_paper(nest, value):
    """Tell whether a value is a tuple of pairs of states and integers."""
    return isinstance(value, tuple) and all([is_line(nest, item) for item in value])


def is_line(nest, value):
    """Tell whether a value is a pair of a state and an integer."""
    return isinstance(value, tuple) and len(value) == 2 and is_rising(value[0], len(nest) - 1) and is_whole(value[1])


def is_low(rooms, numbers, prices, mask, values):
    """Tell whether the value of a mask is at most those behind it plus what the doors cost then."""
    return all([
        values[mask] <= values[mask | 1 << door] + cost_of(prices, mask, door)
        for door in kept_doors(rooms, numbers, mask, values)
    ])


def cost_of(prices, mask, door):
    """Return what a door costs that is opened while those of a mask are open."""
    return prices[door] * (ones(mask) + 1)


def kept_doors(rooms, numbers, mask, table):
    """Return the ascending list of the ready doors behind which the mask is in a table."""
    return [door for door in ready_at(rooms, numbers, mask) if mask | 1 << door in table]


def least_rests(rooms, numbers, prices):
    """Return the dict of the least sums of costs still to come, of all masks that are not lost."""
    rests = {all_doors(rooms): 0}
    for mask in masks_over(rooms, 0):
        doors = kept_doors(rooms, numbers, mask, rests)
        if doors:
            rests[mask] = min([rests[mask | 1 << door] + cost_of(prices, mask, door) for door in doors])
    return rests
