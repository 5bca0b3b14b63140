"""Slow answers, straight from the words of the document, and nests and numbers to ask for."""

from fractions import Fraction
from itertools import permutations, product
from random import Random


def all_nests(many):
    """All nests of so many doors."""
    choices = [[None, *range(door + 1, many)] for door in range(many)]
    return [tuple(nest) for nest in product(*choices)]


def doors_around(nest, door):
    found = []
    while nest[door] is not None:
        door = nest[door]
        found.append(door)
    return found


def doors_inside(nest, door):
    return [other for other in range(len(nest)) if door in doors_around(nest, other)]


def some_numbers(nest, seed, most=4):
    """Numbers for a nest, by a seed: also doors without any, and numbers not less than the size."""
    source = Random(f"{nest} {seed}")
    return tuple(
        tuple(sorted(source.sample(range(9), 1)))
        if source.random() < 0.1
        else tuple(number for number in range(most) if source.random() < 0.6)
        for _ in nest
    )


def full_numbers(nest, seed):
    """Numbers for a nest, by a seed, that allow some order: each door has one less than its size."""
    source = Random(f"{nest} full {seed}")
    rows = []
    for door in range(len(nest)):
        size = len(doors_inside(nest, door)) + 1
        row = {source.randrange(size)} | {number for number in range(9) if source.random() < 0.3}
        rows.append(tuple(sorted(row)))
    return tuple(rows)


def houses(most_doors=4, seeds=3):
    """Pairs (nest, numbers): all small nests, each with several numbers."""
    for many in range(1, most_doors + 1):
        for nest in all_nests(many):
            for seed in range(seeds):
                yield nest, some_numbers(nest, seed)
                yield nest, full_numbers(nest, seed)


def rank_in(nest, order, door):
    ahead = order[:order.index(door)]
    return len([other for other in doors_inside(nest, door) if other in ahead])


def ranks_of(nest, order):
    return tuple(rank_in(nest, order, door) for door in range(len(nest)))


def can_open(nest, numbers, state, door):
    count = len([other for other in doors_inside(nest, door) if other in state])
    return door not in state and count in numbers[door]


def is_way(nest, numbers, state, way):
    """Whether the doors of a way can be opened one behind another, from a state on."""
    done = set(state)
    for door in way:
        if not can_open(nest, numbers, done, door):
            return False
        done.add(door)
    return True


def ways_between(nest, numbers, one, other):
    """All ways to open just the doors of the other state that the one has not."""
    if not set(one) <= set(other):
        return []
    new = [door for door in other if door not in one]
    return [way for way in permutations(new) if is_way(nest, numbers, one, way)]


def ways_from(nest, numbers, state):
    return ways_between(nest, numbers, state, range(len(nest)))


def orders_of(nest, numbers):
    """All allowed orders, ascending."""
    return sorted(ways_from(nest, numbers, ()))


def all_states(nest):
    many = len(nest)
    return [
        tuple(door for door in range(many) if bits[door])
        for bits in product((False, True), repeat=many)
    ]


def ratio(top, bottom=1):
    value = Fraction(top, bottom)
    return value.numerator, value.denominator


def ready(nest, numbers, state):
    return [door for door in range(len(nest)) if can_open(nest, numbers, state, door)]


def further(state, door):
    return tuple(sorted((*state, door)))


def is_number(value, low, high):
    return type(value) is int and low <= value <= high


def is_state(nest, value):
    return type(value) is tuple and all(is_number(door, 0, len(nest) - 1) for door in value) \
        and list(value) == sorted(set(value))


def is_order(nest, value):
    return type(value) is tuple and all(is_number(door, 0, len(nest) - 1) for door in value) \
        and sorted(value) == list(range(len(nest)))


def ascends(values):
    """Whether values ascend, each unlike the one before it."""
    return all(one < other for one, other in zip(values, values[1:]))
