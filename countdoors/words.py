"""Words: how the orders of rooms that lie beside one another are mixed."""

from countdoors.common import (
    check_nest, check_order, check_ranks, doors_of, is_whole, room_masks,
)
from countdoors.errors import BadWords


def words_of(nest, order):
    """Return the words of all rooms in an order, and at last that of what lies in none."""
    check_nest(nest)
    check_order(nest, order)
    return tuple([
        tuple([heads[door] for door in order if door in heads]) for heads in all_heads(nest)
    ])


def order_of(nest, some, words):
    """Return the only order that has some ranks and words."""
    check_nest(nest)
    check_ranks(nest, some)
    check_words(nest, words)
    # Rooms inside have lesser indexes, so their orders are there when a room's turn comes.
    parts = []
    for door, rank in enumerate(some):
        order = mixed(parts, words[door])
        parts.append(order[:rank] + (door,) + order[rank:])
    return mixed(parts, words[len(nest)])


def check_words(nest, words):
    """Raise BadWords unless a value is words of a nest."""
    if not isinstance(words, tuple) or len(words) != len(nest) + 1:
        raise BadWords("words are a tuple with one item for each door and one more")
    for heads, word in zip(all_heads(nest), words):
        if not is_word(sorted(heads.values()), word):
            raise BadWords("a word has the doors of the rooms at once, each as often as its size")


def is_word(doors, value):
    """Tell whether a value is a tuple of some doors, given ascending, each as often as there."""
    if not isinstance(value, tuple) or not all([is_whole(item) for item in value]):
        return False
    return sorted(value) == doors


def all_heads(nest):
    """Return the list of heads_in, for the rooms of all doors and at last for what lies in none."""
    rooms = room_masks(nest)
    return [heads_in(nest, rooms, outer) for outer in list(range(len(nest))) + [None]]


def heads_in(nest, rooms, outer):
    """Return the dict, for each door inside a room, of the door of the room at once in which it lies.

    For None it is that of all doors.
    """
    heads = {}
    for head, around in enumerate(nest):
        if around == outer:
            for door in doors_of(rooms[head] | 1 << head):
                heads[door] = head
    return heads


def mixed(parts, word):
    """Return the tuple of the doors of parts, each time the next one of the part that the word names."""
    taken = [0] * len(parts)
    order = ()
    for head in word:
        order = order + (parts[head][taken[head]],)
        taken[head] = taken[head] + 1
    return order
