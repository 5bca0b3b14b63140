"""All rows of the heights 1 to n taken together."""

from math import comb

from countdoors.common import check_count, ratio

MOST_PEOPLE = 9


def rows_by_stays(n):
    """Return the tuple of the numbers of rows in which 1, 2, .., n people stay."""
    check_count(n, 1, MOST_PEOPLE)
    counts = [1]
    # The next lower one stays at both ends, leaves from between, and changes nothing for the others.
    for people in range(1, n):
        longer = [0] * (people + 1)
        for at, many in enumerate(counts):
            longer[at] = longer[at] + (people - 1) * many
            longer[at + 1] = longer[at + 1] + 2 * many
        counts = longer
    return tuple(counts)


def rows_by_rounds(n):
    """Return the tuple of the numbers of rows in which the last ones leave in round 0, 1, .., n."""
    check_count(n, 1, MOST_PEOPLE)
    ended = []
    # By the number of people between two taller ones: in how many rows all leave by this round.
    between = [1] + [0] * (n - 1)
    for _ in range(n + 1):
        ended.append(rows_ended(between))
        # The tallest one leaves one round behind those on both of its sides.
        between = [1] + [parted(between, between, people) for people in range(n - 1)]
    return tuple([ended[0]] + [many - before for before, many in zip(ended, ended[1:])])


def orders_in_all(n):
    """Return the sum of the numbers of orders of leaving over all rows."""
    check_count(n, 1, MOST_PEOPLE)
    # Keys are pairs of how many people there are and how many of them leave. Of people between
    # two taller ones all leave, the tallest one last.
    between = {(0, 0): 1}
    beside = {(0, 0): 1}
    for people in range(n - 1):
        between[people + 1, people + 1] = mixed(between, between, people)[people]
        # Beside one taller one the tallest one stays.
        around = mixed(between, beside, people)
        for leaving, many in around.items():
            beside[people + 1, leaving] = many
    return sum(mixed(beside, beside, n - 1).values())


def mean_paid(n):
    """Return the mean of all that is paid in a row, as a ratio."""
    check_count(n, 1, MOST_PEOPLE)
    # Of the m people from some height up, its own one stands between two others in (m - 2) / m
    # of all rows. These are any two of the taller ones, so the lower one is m / 3 taller in the
    # mean. The products (m - 2) / 3 sum up over all heights.
    return ratio((n - 1) * (n - 2), 6)


def rows_ended(between):
    """Return the number of rows in which all who leave do so by a round.

    It is told of people between two taller ones, by how many they are.
    """
    # Beside one taller one the tallest one stays, and parts those between both from the others.
    beside = [1]
    for people in range(len(between) - 1):
        beside.append(parted(between, beside, people))
    return parted(beside, beside, len(between) - 1)


def parted(lefts, rights, people):
    """Return in how many rows the tallest one stands between rows on its left and on its right.

    Both are told by how many people are in them; there are so many people besides the tallest one.
    """
    return sum([comb(people, left) * lefts[left] * rights[people - left] for left in range(people + 1)])


def mixed(lefts, rights, people):
    """Return the dict, by how many leave, of the orders of leaving in all rows around a tallest one.

    Heights are parted among both sides, and orders of both sides are mixed, in all ways.
    """
    found = {}
    for (left, one), many in lefts.items():
        for (right, other), times in rights.items():
            if left + right == people:
                ways = comb(people, left) * comb(one + other, one) * many * times
                found[one + other] = found.get(one + other, 0) + ways
    return found
