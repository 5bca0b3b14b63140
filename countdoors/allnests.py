"""All nests of n doors taken together."""

from math import comb, factorial

from countdoors.common import MOST_DOORS, check_count


def nest_count(n):
    """Return the number of nests."""
    check_count(n, 1, MOST_DOORS)
    return factorial(n)


def nests_by_rooms(n):
    """Return the tuple of the numbers of nests with 1, 2, .., n rooms that lie in no other one."""
    check_count(n, 1, MOST_DOORS)
    counts = [1]
    # A door with so many greater ones lies at once in the room of one of them, or in none.
    for greater in range(1, n):
        counts = [greater * many + fewer for many, fewer in zip(counts + [0], [0] + counts)]
    return tuple(counts)


def nests_by_depth(n):
    """Return the tuple of the numbers of nests whose greatest number of doors around one is 0, 1, .., n - 1."""
    check_count(n, 1, MOST_DOORS)
    # By the number of doors: how many nests have at most so many doors around one. With less
    # than none around there is only the nest without doors.
    counts = [1] + [0] * n
    ended = [0]
    for _ in range(n):
        counts = counts_one_deeper(counts)
        ended.append(counts[n])
    return tuple([many - before for before, many in zip(ended, ended[1:])])


def mixings_in_all(n):
    """Return the sum of mixings over all nests."""
    check_count(n, 1, MOST_DOORS)
    # Mixings are the orders in which no door stands behind one inside its room. In such an order
    # a door can lie at once in the room of any greater one that stands before it, or in none. How
    # many these are is, over all orders, any number up to all greater ones, for each door by itself.
    total = 1
    for many in range(1, n + 1):
        total = total * sum(range(1, many + 1))
    return total


def counts_one_deeper(counts):
    """Return, by the number of doors, how many nests have at most one more door around one than in counts."""
    # The greatest door lies in no other room. Any of the others may lie inside its room; they are
    # a nest of their own, less deep by one, and so are those that do not, as deep as the whole.
    deeper = [1]
    for many in range(1, len(counts)):
        deeper.append(sum([
            comb(many - 1, inner) * counts[inner] * deeper[many - 1 - inner] for inner in range(many)
        ]))
    return deeper
