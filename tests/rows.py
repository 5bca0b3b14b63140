"""Rows and rings of people, slowly: they leave one by one, as the document says."""

from itertools import permutations
from random import Random


def some_rows():
    """All rows of the heights 1 to 5 and fewer, and some of 6 unlike heights."""
    for many in range(1, 6):
        yield from permutations(range(1, many + 1))
    source = Random("rows")
    for _ in range(60):
        yield tuple(source.sample(range(100), 6))


def beside(row, left, place, is_ring):
    """The neighbours of a place among the places left, or fewer than two at the ends of a row."""
    at = left.index(place)
    if is_ring:
        return [left[at - 1], left[(at + 1) % len(left)]] if len(left) > 1 else []
    return [left[k] for k in (at - 1, at + 1) if 0 <= k < len(left)]


def may_leave(row, left, is_ring=False):
    """The places of those who may leave now, each with what it pays."""
    found = {}
    for place in left:
        heights = [row[other] for other in beside(row, left, place, is_ring)]
        if len(heights) == 2 and row[place] < min(heights):
            found[place] = min(heights) - row[place]
    return found


def leavings(row, is_ring=False):
    """All ways to leave until nobody may: triples of the order, those left, and the payments."""
    def leave(left, order, paid):
        can = may_leave(row, left, is_ring)
        if not can:
            found.append((order, left, paid))
        for place in can:
            leave(tuple(other for other in left if other != place), (*order, place), {**paid, place: can[place]})
    found = []
    leave(tuple(range(len(row))), (), {})
    return found


def slow_rounds(row):
    """The dict of the rounds in which places leave."""
    left = tuple(range(len(row)))
    found = {}
    number = 1
    while may_leave(row, left):
        out = may_leave(row, left)
        for place in out:
            found[place] = number
        left = tuple(place for place in left if place not in out)
        number += 1
    return found


def slow_nest(row, places):
    """The nest of the leavers, by the words of the document."""
    items = []
    for place in places:
        left = [at for at in range(place) if row[at] > row[place]][-1]
        right = [at for at in range(place + 1, len(row)) if row[at] > row[place]][0]
        lower = min(left, right, key=lambda at: row[at])
        items.append(places.index(lower) if lower in places else None)
    return tuple(items)
