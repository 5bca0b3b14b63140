"""What several files need: checks of arguments, sets of doors as masks, counts of ways, ratios.

A mask is an integer in which the bit 1 << door stands for a door. Sets of doors are joined and
compared far more often than they are shown, so they are kept as masks inside the package.
Only the checks raise errors; all other functions here take arguments that are checked already.
"""

from math import factorial, gcd

from countdoors.errors import (
    BadCount, BadDoor, BadNest, BadNumbers, BadOrder, BadRanks, BadState, BadTold, TooMany,
)

MOST_DOORS = 9
LAST_NUMBER = 8
MOST_TOLD = 12


def is_whole(value):
    """Tell whether a value is an integer; True and False are none."""
    return isinstance(value, int) and not isinstance(value, bool)


def is_integer(value, low, high):
    """Tell whether a value is an integer from low to high."""
    return is_whole(value) and low <= value <= high


def is_rising(value, high):
    """Tell whether a value is an ascending tuple of unlike integers from 0 to high."""
    if not isinstance(value, tuple):
        return False
    low = 0
    for item in value:
        if not is_integer(item, low, high):
            return False
        low = item + 1
    return True


def is_order(many, value):
    """Tell whether a value is a tuple of so many doors, from 0 on, each once."""
    if not isinstance(value, tuple) or len(value) != many:
        return False
    if not all([is_integer(item, 0, many - 1) for item in value]):
        return False
    return len(set(value)) == many


def are_orders(many, value):
    """Tell whether a value is an ascending tuple of unlike orders of so many doors."""
    if not isinstance(value, tuple) or not all([is_order(many, item) for item in value]):
        return False
    return all([order < further for order, further in zip(value, value[1:])])


def is_ratio(value):
    """Tell whether a value is a ratio."""
    if not isinstance(value, tuple) or len(value) != 2 or not all([is_whole(item) for item in value]):
        return False
    return value[1] > 0 and gcd(value[0], value[1]) == 1


def check_nest(nest):
    """Raise BadNest unless a value is a nest."""
    if not isinstance(nest, tuple) or not 1 <= len(nest) <= MOST_DOORS:
        raise BadNest(None)
    for door, outer in enumerate(nest):
        if outer is not None and not is_integer(outer, door + 1, len(nest) - 1):
            raise BadNest(door)


def check_door(nest, door):
    """Raise BadDoor unless a value is a door of a nest."""
    if not is_integer(door, 0, len(nest) - 1):
        raise BadDoor("there is no such door")


def check_numbers(nest, numbers):
    """Raise BadNumbers unless a value is numbers for a nest."""
    if not isinstance(numbers, tuple) or len(numbers) != len(nest):
        raise BadNumbers(None)
    for door, some in enumerate(numbers):
        if not is_rising(some, LAST_NUMBER):
            raise BadNumbers(door)


def check_both(nest, numbers):
    """Raise BadNest or BadNumbers unless two values are a nest and numbers for it."""
    check_nest(nest)
    check_numbers(nest, numbers)


def check_order(nest, order):
    """Raise BadOrder unless a value is an order of a nest."""
    if not is_order(len(nest), order):
        raise BadOrder("an order is a tuple of all doors, each once")


def check_rank(nest, door, rank):
    """Raise BadRanks unless a value is a rank that a door of a nest can have."""
    if not is_integer(rank, 0, ones(room_masks(nest)[door])):
        raise BadRanks("a rank is an integer from 0 to the size of its door less 1")


def check_ranks(nest, some):
    """Raise BadRanks unless a value is ranks for a nest."""
    if not isinstance(some, tuple) or len(some) != len(nest):
        raise BadRanks("ranks are a tuple with one item for each door")
    for door, rank in enumerate(some):
        check_rank(nest, door, rank)


def check_state(nest, state):
    """Raise BadState unless a value is a state of a nest."""
    if not is_rising(state, len(nest) - 1):
        raise BadState("a state is an ascending tuple of doors")


def check_told(many, told):
    """Raise BadTold unless a value is an ascending tuple of 1 to 12 unlike orders of so many doors."""
    if not are_orders(many, told) or not 1 <= len(told) <= MOST_TOLD:
        raise BadTold("told orders are an ascending tuple of 1 to 12 unlike orders")


def check_count(value, low, high):
    """Raise BadCount unless a value is an integer from low to high."""
    if not is_integer(value, low, high):
        raise BadCount("a count is an integer within its limits")


def check_few(nest, numbers, most):
    """Raise TooMany if more than so many orders are allowed."""
    if ways_left(room_masks(nest), numbers, 0) > most:
        raise TooMany(most)


def ones(mask):
    """Return how many doors are in a mask."""
    many = 0
    while mask:
        mask = mask & (mask - 1)
        many = many + 1
    return many


def mask_of(doors):
    """Return the mask of unlike doors."""
    return sum([1 << door for door in doors])


def doors_of(mask):
    """Return the ascending tuple of the doors in a mask."""
    return tuple([door for door in range(mask.bit_length()) if has_door(mask, door)])


def has_door(mask, door):
    """Tell whether a door is in a mask."""
    return mask >> door & 1 == 1


def room_masks(nest):
    """Return the list of the masks of the doors inside the room of each door."""
    rooms = [0] * len(nest)
    # A room's doors are complete when its turn comes: all doors inside have lesser indexes.
    for door, outer in enumerate(nest):
        if outer is not None:
            rooms[outer] = rooms[outer] | rooms[door] | 1 << door
    return rooms


def all_doors(rooms):
    """Return the mask of all doors, given by anything with one item for each of them."""
    return (1 << len(rooms)) - 1


def masks_over(rooms, mask):
    """Return the list of all masks that hold a mask, those with more doors before those without them."""
    return [more for more in range(all_doors(rooms), mask - 1, -1) if more & mask == mask]


def count_ways(rooms, numbers, one, other):
    """Return the number of ways to open the doors that other has and one has not, from one on.

    The doors to be opened are a nest of their own. There the ranks of a door are its ranks
    among all doors less the open doors inside, and all ranks are equally frequent.
    """
    if one & other != one:
        return 0
    closed = other ^ one
    top = factorial(ones(closed))
    bottom = 1
    for door in doors_of(closed):
        low = ones(one & rooms[door])
        size = ones(closed & rooms[door]) + 1
        top = top * len([number for number in numbers[door] if low <= number < low + size])
        bottom = bottom * size
    return top // bottom


def ways_left(rooms, numbers, mask):
    """Return the number of ways to open all doors that are not in a mask, from it on."""
    return count_ways(rooms, numbers, mask, all_doors(rooms))


def ready_at(rooms, numbers, mask):
    """Return the ascending list of the doors that can be opened while those of a mask are open."""
    closed = doors_of(all_doors(rooms) ^ mask)
    return [door for door in closed if ones(mask & rooms[door]) in numbers[door]]


def safe_at(rooms, numbers, mask):
    """Return the ascending list of the ready doors behind which all doors can still be opened."""
    return [door for door in ready_at(rooms, numbers, mask) if ways_left(rooms, numbers, mask | 1 << door)]


def least_rest(rooms, numbers, mask):
    """Return the least tuple of doors that opens all from a mask on; there must be one."""
    rest = ()
    while mask != all_doors(rooms):
        door = safe_at(rooms, numbers, mask)[0]
        rest = rest + (door,)
        mask = mask | 1 << door
    return rest


def allowed_orders(rooms, numbers):
    """Return the ascending list of all allowed orders."""
    safe = [safe_at(rooms, numbers, mask) for mask in range(1 << len(rooms))]
    begun = [()]
    for _ in rooms:
        begun = [order + (door,) for order in begun for door in safe[mask_of(order)]]
    return begun


def ratio(top, bottom):
    """Return the ratio of an integer to a positive one."""
    common = gcd(top, bottom)
    return top // common, bottom // common


def plus(one, other):
    """Return the sum of two ratios."""
    return ratio(one[0] * other[1] + other[0] * one[1], one[1] * other[1])
