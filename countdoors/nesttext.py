"""Texts of nests with their numbers."""

from countdoors.common import LAST_NUMBER, MOST_DOORS, check_both
from countdoors.errors import InvalidText, NotText

DIGITS = "0123456789"
# The mark behind the last word of a text; no word of a text can be equal to it.
END = "end"


def write_nest(nest, numbers):
    """Return the text of a nest and its numbers."""
    check_both(nest, numbers)
    return "; ".join([door_text(outer, some) for outer, some in zip(nest, numbers)])


def door_text(outer, some):
    """Return the text of one door: the door around it, and its numbers."""
    name = "-" if outer is None else str(outer)
    return name + ":" + "".join([f" {number}" for number in some])


def read_nest(text):
    """Return the pair of the nest and the numbers that a text names."""
    if not isinstance(text, str):
        raise NotText("a text is a string")
    words = words_of_text(text)
    nest = []
    numbers = []
    at = 0
    while True:
        nest.append(read_outer(words[at], len(nest)))
        check_colon(words[at + 1])
        some = read_numbers(words[at + 2:])
        numbers.append(some)
        at = at + 2 + len(some)
        word, place = words[at]
        if word == END:
            break
        if word != ";" or len(nest) == MOST_DOORS:
            raise InvalidText(place)
        at = at + 1
    # Only the end of the text tells which doors there are.
    if any([outer is not None and outer >= len(nest) for outer in nest]):
        raise InvalidText(len(text))
    return tuple(nest), tuple(numbers)


def words_of_text(text):
    """Return the list of the words of a text, each with its place, and END with the text's length.

    A word is a longest row of digits, or any other character but a space.
    """
    words = []
    at = 0
    while at < len(text):
        behind = at + 1
        while text[at] in DIGITS and behind < len(text) and text[behind] in DIGITS:
            behind = behind + 1
        if text[at] != " ":
            words.append((text[at:behind], at))
        at = behind
    words.append((END, len(text)))
    return words


def read_outer(placed, door):
    """Return the door around a door that a word names, None for a "-"."""
    if placed[0] == "-":
        return None
    return read_digit(placed, door + 1)


def check_colon(placed):
    """Raise InvalidText unless a word is a colon."""
    word, place = placed
    if word != ":":
        raise InvalidText(place)


def read_numbers(words):
    """Return the tuple of the numbers with which a list of words begins."""
    some = []
    low = 0
    for placed in words:
        if placed[0][0] not in DIGITS:
            break
        number = read_digit(placed, low)
        some.append(number)
        low = number + 1
    return tuple(some)


def read_digit(placed, low):
    """Return the number from low to 8 that a word names."""
    word, place = placed
    if len(word) != 1 or word not in DIGITS:
        raise InvalidText(place)
    number = int(word)
    if not low <= number <= LAST_NUMBER:
        raise InvalidText(place)
    return number
