"""Numbers that are bought, each door's at its own prices."""

from itertools import combinations

from countdoors.common import check_count, check_nest, is_integer
from countdoors.costs import GREATEST_PRICE
from countdoors.errors import BadPrices
from countdoors.nests import mixings, sizes
from countdoors.wishing import MOST_WISHED

MOST_PAID = 10000


def bought(nest, table, least):
    """Return the pair of the least cost of numbers that allow at least so many orders, and the least such numbers.

    None if there are none.
    """
    check_nest(nest)
    check_table(nest, table)
    check_count(least, 1, MOST_WISHED)
    times = mixings(nest)
    found = [offer for many, offer in best_offers(table).items() if times * many >= least]
    return min(found) if found else None


def most_orders(nest, table, most):
    """Return the pair of the greatest number of orders for at most so much, and the best numbers for it."""
    check_nest(nest)
    check_table(nest, table)
    check_count(most, 0, MOST_PAID)
    found = [(many, offer[1]) for many, offer in best_offers(table).items() if offer[0] <= most]
    if not found:
        # A door without a number is left: no order is allowed, and no number is worth a price.
        return 0, ((),) * len(nest)
    many, numbers = max(found)
    return mixings(nest) * many, numbers


def check_table(nest, table):
    """Raise BadPrices unless a value is number prices for a nest."""
    if not isinstance(table, tuple) or len(table) != len(nest):
        raise BadPrices("number prices are a tuple with one item for each door")
    for row, size in zip(table, sizes(nest)):
        if not isinstance(row, tuple) or len(row) != size:
            raise BadPrices("a door has as many prices as its size")
        if not all([is_integer(price, 0, GREATEST_PRICE) for price in row]):
            raise BadPrices("a price is an integer from 0 to 1000")


def best_offers(table):
    """Return the dict of the least pairs (cost, numbers) in which each door has a number.

    Its keys are the products of how many numbers the doors have; mixings times as many orders
    are allowed.
    """
    offers = {1: (0, ())}
    # From the last door on: of equal costs the numbers of the first doors count most.
    for row in reversed(table):
        choices = [best_choice(row, many) for many in range(1, len(row) + 1)]
        longer = {}
        for times, (cost, numbers) in offers.items():
            for price, some in choices:
                offer = (price + cost, (some,) + numbers)
                many = times * len(some)
                longer[many] = min(offer, longer.get(many, offer))
        offers = longer
    return offers


def best_choice(row, many):
    """Return the least pair (price, numbers) of so many numbers of one door."""
    return min([
        (sum([row[number] for number in some]), some) for some in combinations(range(len(row)), many)
    ])
