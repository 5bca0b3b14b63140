"""Alike doors: other names for doors that leave rooms and numbers as they are."""

from countdoors.common import check_both
from countdoors.errors import BadPair, DoorError
from countdoors.orders import order_count


def renamings(nest, numbers):
    """Return the number of all renamings."""
    check_both(nest, numbers)
    counts = {}
    total = 1
    # Alike rooms that lie beside one another may be exchanged in any way, whatever lies elsewhere.
    for key in zip(nest, room_kinds(nest, numbers)):
        counts[key] = counts.get(key, 0) + 1
        total = total * counts[key]
    return total


def orders_alike(nest, numbers):
    """Return the number of allowed orders if those are the same that a renaming makes of one another."""
    # No renaming but the one that changes nothing leaves an order as it is.
    return order_count(nest, numbers) // renamings(nest, numbers)


def least_form(nest, numbers):
    """Return the least pair (nest, numbers) that other names make of it, None being greater than all doors."""
    check_both(nest, numbers)
    # Names are given from the last one down, so that a door is named behind those around it.
    forms = {(None,) * len(nest): ((), ())}
    for name in reversed(range(len(nest))):
        forms = forms_behind(nest, numbers, forms, name)
    outers, rows = min(forms.values())
    return tuple([None if outer == len(nest) else outer for outer in outers]), rows


def are_alike(one, other):
    """Tell whether two pairs (nest, numbers) have the same least form."""
    check_pair(one)
    check_pair(other)
    return least_form(one[0], one[1]) == least_form(other[0], other[1])


def alike_doors(nest, numbers):
    """Return the ascending tuple of the ascending tuples of doors that renamings put in one another's places."""
    check_both(nest, numbers)
    kinds = room_kinds(nest, numbers)
    # Doors are alike if their rooms are, and the rooms around these, one by one.
    groups = {}
    group_of = [None] * len(nest)
    for door in reversed(range(len(nest))):
        around = None if nest[door] is None else group_of[nest[door]]
        key = (around, kinds[door])
        groups[key] = (door,) + groups.get(key, ())
        # A group is known by its greatest door, which comes first.
        group_of[door] = groups[key][-1]
    return tuple(sorted(groups.values()))


def check_pair(value):
    """Raise BadPair unless a value is a pair of a nest and numbers for it."""
    if not isinstance(value, tuple) or len(value) != 2:
        raise BadPair("a pair is a tuple of a nest and numbers for it")
    try:
        check_both(value[0], value[1])
    except DoorError:
        raise BadPair("a pair is a tuple of a nest and numbers for it") from None


def room_kinds(nest, numbers):
    """Return the list, for each door, of an integer that is the same for alike rooms alone.

    Rooms are alike if their doors have the same numbers and as many of each kind lie in them.
    """
    known = {}
    kinds = []
    for door, some in enumerate(numbers):
        key = (some, tuple(sorted([kind for kind, outer in zip(kinds, nest) if outer == door])))
        if key not in known:
            known[key] = len(known)
        kinds.append(known[key])
    return kinds


def forms_behind(nest, numbers, forms, name):
    """Return the forms when one more door is named, any that may have this name.

    Forms are a dict from the names of doors to the least pair of the last items of nest and
    numbers, which hold the number of doors in the place of None. The names are None for doors
    without one, and the number of doors for doors whose name matters no longer.
    """
    behind = {}
    for names, (outers, rows) in forms.items():
        for door, outer in enumerate(nest):
            if names[door] is None and (outer is None or names[outer] is not None):
                around = len(nest) if outer is None else names[outer]
                form = ((around,) + outers, (numbers[door],) + rows)
                key = names_behind(nest, names[:door] + (name,) + names[door + 1:])
                behind[key] = min(form, behind.get(key, form))
    return behind


def names_behind(nest, names):
    """Return names without those that matter no longer: all rooms at once in theirs have names."""
    awaited = [outer for outer, name in zip(nest, names) if name is None]
    return tuple([
        name if name is None or door in awaited else len(nest) for door, name in enumerate(names)
    ])
