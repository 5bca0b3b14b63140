"""Wrong values for each kind of argument, with the error that each one calls for.

They are meant for the nest (2, 2, None): doors 0, 1 and 2, sizes 1, 1 and 3.
"""

NEST = (2, 2, None)
HUGE = 10 ** 40
# No value of any named kind but a nest's or a text's, and no state.
ODD = [True, False, "0", "", [], [0, 1, 2], {}, {0: 1}, -1, HUGE, -HUGE, ((((),),),)]


def plain(name, values):
    return [(value, name, {}) for value in values]


def indexed(name, rows):
    return [(value, name, {"index": index}) for value, index in rows]


NESTS = indexed("BadNest", [
    *[(value, None) for value in [None, 7, True, False, "2", "", [], {}, -1, HUGE, (), [2, 2, None]]],
    ((None,) * 10, None), ((1, 2, 3, 4, 5, 6, 7, 8, 9, None), None), ((None,) * 99, None),
    ((0,), 0), ((1,), 0), ((-1, None), 0), ((0, None), 0), ((True, None), 0), ((False, None), 0),
    (("1", None), 0), (([], None), 0), (((1,), None), 0), (({}, None), 0), ((HUGE, None), 0),
    ((2, None), 0), ((1, 1), 1), ((1, 0), 1), ((2, 2, 2), 2), ((2, 2, 3), 2), ((2, 1, 0), 1),
    ((1, None, "x", True), 2), ((2, 2, True), 2), ((None, 0, None), 1), ((2, -HUGE, "x"), 1),
    ((3, 2, None), 0), ((1, 3, None), 1), ((None,) * 8 + (9,), 8), ((9,) + (None,) * 8, 0),
])
NUMBERS = indexed("BadNumbers", [
    *[(value, None) for value in [None, *ODD, (), ((),), ((0,), (0,)), ((0,),) * 4, [(0,), (0,), (1,)]]],
    (((0,), (0,), None), 2), ((0, (0,), (1,)), 0), (((0,), [0], (1,)), 1), (((0,), "0", (1,)), 1),
    (((0,), {}, (1,)), 1), (((0,), (0,), (1, 1)), 2), (((0,), (0,), (2, 1)), 2),
    (((0,), (0,), (9,)), 2), (((-1,), (0,), (1,)), 0), (((0,), (True,), (1,)), 1),
    (((0,), (0,), (False, 1)), 2), (((0,), (0,), ("1",)), 2), (((0,), (0,), (None,)), 2),
    (((0,), (0,), ((1,),)), 2), (((0,), (0,), ([],)), 2), (((0,), (HUGE,), (1, 1)), 1),
    (((0,), (0,), (0, 1, 2, 3, 4, 5, 6, 7, 8, 9)), 2), (((0,), (3, 2), (9,)), 1),
    (((0, 0), (0,), (1,)), 0), (((0,), (0,), (1, 0)), 2),
])
DOORS = plain("BadDoor", [None, *ODD, 3, 9, (0,), [0], (), "None"])
DOORS_OF_9 = plain("BadDoor", [None, *ODD, 9, 10, (0,), [0], (), "None"])
INNER = plain("BadDoor", [*ODD, 3, 9, (0,), [0], (), "None"])
ORDERS = plain("BadOrder", [
    None, *ODD, 0, (), (0,), (0, 1), (0, 1, 2, 3), (0, 0, 1), (0, 1, 1), (2, 2, 2), (1, 2, 3),
    (-1, 0, 1), (0, 1, "2"), (0, 1, None), (0, True, 2), (False, 1, 2), (0, 1, (2,)), (0, 1, [2]),
    (0, 1, {}), (0, 1, HUGE), (0, 1, 2, 2), "012",
])
RANKS = plain("BadRanks", [
    None, *ODD, 0, (), (0,), (0, 0), (0, 0, 0, 0), (1, 0, 0), (0, 1, 0), (0, 0, 3), (0, 0, -1),
    (0, 0, HUGE), (0, 0, True), (False, 0, 0), (0, 0, None), (0, 0, "1"), (0, 0, (1,)), (0, 0, [1]),
])
# For door 2, of size 3.
RANK_OF_2 = plain("BadRanks", [None, *ODD, 3, 9, (0,), (), [1]])
TEXTS = plain("NotText", [None, True, False, 0, 5, -1, HUGE, [], ["-:"], (), ("-:",), {}, {"-": 1}])
STATES = plain("BadState", [
    None, *ODD, 0, (3,), (0, 3), (-1,), (0, 0), (1, 0), (2, 1), (0, 1, 1), (0, 1, 2, 3), (0, 1, 2, 2), (HUGE,),
    (True,), (False,), (0, True), (None,), ("0",), ((0,),), ([],), ({},), (0, None), [0], "0",
])
# For four allowed orders.
INDEXES = plain("BadIndex", [None, *ODD, 4, 5, (), (0,), [0]])
NUMBER = plain("BadIndex", [None, *ODD, 9, (), (0,), [0]])
NEW_NUMBERS = indexed("BadNumbers", [
    (value, None) for value in [
        None, *ODD, 0, (9,), (0, 9), (-1,), (0, 0), (1, 0), (True,), (False,), (None,), ("0",), ((0,),), ([],),
        (0, HUGE), (0, 1, 2, 3, 4, 5, 6, 7, 8, 9), ((0,), (0,), (1,)),
    ]
])
# For the state (1,).
CLOSED = DOORS + plain("BadDoor", [1])
# For a second door beside door 2.
FURTHER = CLOSED + plain("BadDoor", [2])
MANY = plain("BadCount", [None, *ODD, 0, 10, (), (1,), [1]])
TOTALS = plain("BadCount", [None, *ODD, 37, 100, (), (1,), [1]])
LONG = tuple([(0, 1, 2), (0, 2, 1), (1, 0, 2), (1, 2, 0), (2, 0, 1), (2, 1, 0)])
TOLD = plain("BadTold", [
    None, *ODD, 0, (), (0, 1, 2), [(0, 1, 2)], ([0, 1, 2],), ((0, 1),), ((0, 1, 2, 2),), ((0, 0, 1),), (None,),
    ((0, 1, True),), ((False, 1, 2),), ((0, 1, 3),), ((0, 1, 2), None), ((0, 1, 2), (0, 1, 2)),
    ((0, 2, 1), (0, 1, 2)), ((0, 1, 2), (2, 1, 0), (1, 0, 2)), ("012",), ((0, 1, "2"),), LONG * 2, LONG + LONG + LONG,
    ((0, 1, 2), (1, 0, [])), ({},), ((0, 1, 2), HUGE), ((), (0, 1, 2)),
])
COUNTS = plain("BadCount", [None, *ODD, 0, 1000001, (), (1,), [1]])
FLAGS = plain("BadFlag", [None, *[value for value in ODD if not isinstance(value, bool)], 0, 1, "True", (), (True,)])
ROWS = plain("BadRow", [
    None, *ODD, 0, 5, (), [1], [1, 2], "12", (1, 1), (5, 1, 5), (0, 100), (-1, 0), (HUGE,), (1, HUGE), (True,), (False, 1),
    (1, None), (1, "2"), (1, (2,)), (1, [2]), (1, {}), (0, 1, 2, 3, 4, 5, 6, 7, 8, 9), (None,), ("5",), (1, 2, -HUGE),
])
# For the row (9, 2, 5, 1, 8, 3, 7).
LEAVINGS = plain("BadOrder", [
    None, *ODD, 0, (), (3,), (3, 1, 5), (3, 1, 5, 5), (3, 1, 5, 2, 2), (3, 1, 5, 0), (3, 1, 5, 2, 0), (3, True, 5, 2),
    (3, 1, 5, "2"), (3, 1, 5, None), (3, 1, 5, (2,)), (3, 1, 5, [2]), (3, 1, 5, -2), (3, 1, 5, 7), (3, 1, 5, HUGE),
    [3, 1, 5, 2], "3152", (0, 1, 2, 3, 4, 5, 6), (0, 1, 2, 3),
])
# For rows of three doors: lefts, and rights beside such lefts.
SIDES = [(value, "BadSides", fields) for value, _, fields in NUMBERS if len(value if isinstance(value, tuple) else ()) == 3]
SIDES = SIDES + indexed("BadSides", [
    *[(value, None) for value in [None, *[odd for odd in ODD if not isinstance(odd, tuple)], (), [(0,)] * 3, ((0,),) * 10]],
    ((0,), 0), ((((((),),),),), 0), (((0,), 0), 1), (((0,),) * 8 + ((9,),), 8),
])
RIGHTS = [row for row in SIDES if isinstance(row[0], tuple) and len(row[0]) == 3] + indexed("BadSides", [
    (value, None) for value in [None, *ODD, (), ((0,),), ((0,),) * 2, ((0,),) * 4, ((9,),) * 4, ((0,),) * 10, [(0,)] * 3]
])
ROW_ORDERS = plain("BadOrder", [
    None, *ODD, 0, (), (1,), (0, 0), (0, 2), (1, 2), (-1, 0), (0, 1, 3), (0, "1"), (0, None), (0, True), (False, 1), (0, (1,)),
    (0, [1]), (0, {}), (0, HUGE), tuple(range(10)), [0, 1], "01", ((0,),), (0, 1, 2, 2), (None,), ("0",),
])
PRICES = plain("BadPrices", [
    None, *ODD, 0, (), (0,), (0, 0), (0, 0, 0, 0), (0, 0, 1001), (-1, 0, 0), (0, HUGE, 0), (0, True, 0), (False, 0, 0),
    (0, 0, None), (0, 0, "1"), (0, (1,), 0), (0, [1], 0), (0, {}, 0), [0, 0, 0], "000", ((0, 0, 0),),
])
WORDS = plain("BadWords", [
    None, *ODD, 0, (), ((), (), (1, 0)), ((), (), (1, 0), (2, 2, 2), ()), ((), (1,), (1, 0), (2, 2, 2)), ((), (), (0, 0), (2, 2, 2)),
    ((), (), (0, 1, 1), (2, 2, 2)), ((), (), (0,), (2, 2, 2)), ((), (), (1, 0), (2, 2)), ((), (), (1, 0), (2, 1, 2)),
    ((), (), (1, 0), (2, 2, 2, 2)), ((), (), (True, 0), (2, 2, 2)), ((), (), (1, False), (2, 2, 2)), ((), (), (1, None), (2, 2, 2)),
    ((), (), (1, "0"), (2, 2, 2)), ((), (), (1, (0,)), (2, 2, 2)), ((), (), (1, []), (2, 2, 2)), ((), (), [1, 0], (2, 2, 2)),
    ((), [], (1, 0), (2, 2, 2)), [(), (), (1, 0), (2, 2, 2)], ((), None, (1, 0), (2, 2, 2)), ((), 0, (1, 0), (2, 2, 2)),
    ((), {}, (1, 0), (2, 2, 2)), ((), "", (1, 0), (2, 2, 2)), ((), (), (1, 0), (HUGE, 2, 2)), ((), (), (1, 0), "222"),
])
PAIRS = plain("BadPair", [
    None, *ODD, 0, (), (NEST,), (NEST, ((0,),)), (NEST, ((0,), (0,), (1,)), 0), [NEST, ((0,), (0,), (1,))], (((0,), (0,), (1,)), NEST),
    ((2, 1, None), ((0,), (0,), (1,))), (NEST, ((0,), (0,), (9,))), (NEST, ((0,), (0,), [1])), (NEST, ((0,), (0,), (True,))),
    ([2, 2, None], ((0,), (0,), (1,))), ((), ()), (None, None), (NEST, None), (NEST, {}), ({}, {}), ("22", "00"),
    ((None,) * 10, ((0,),) * 10), ((True, None), ((0,), (0,))),
])
TABLES = plain("BadPrices", [
    None, *ODD, 0, (), ((1,), (2,)), ((1,), (2,), (4, 3)), ((1,), (2,), (4, 3, 9, 9)), ((), (2,), (4, 3, 9)), ((1,), (2, 2), (4, 3, 9)),
    ((1,), (2,), (4, 3, 9), (0,)), ((1,), (2,), (4, 3, 1001)), ((-1,), (2,), (4, 3, 9)), ((1,), (True,), (4, 3, 9)),
    ((1,), (None,), (4, 3, 9)), ((1,), ("2",), (4, 3, 9)), ((1,), ((2,),), (4, 3, 9)), ((1,), [2], (4, 3, 9)), ((1,), 2, (4, 3, 9)),
    ((1,), {}, (4, 3, 9)), ((1,), (2,), "439"), [(1,), (2,), (4, 3, 9)], ((1,), (2,), (4, HUGE, 9)), (1, 2, 4), ((1,), None, (4, 3, 9)),
])
PAID = plain("BadCount", [None, *ODD, 10001, (), (1,), [1]])
GOALS = plain("BadGoals", [
    None, *ODD, 0, (), ((1, 1),), ((1, 1),) * 2, ((1, 1),) * 4, [(1, 1)] * 3, ((1, 1), (1, 1), (3, 1)), ((1, 1), (1, 1), (2001, 1000)),
    ((-1, 1), (1, 1), (1, 1)), ((1, 1), (2, 2), (1, 1)), ((1, 1), (0, 2), (1, 1)), ((1, 1), (1, 0), (1, 1)), ((1, 1), (0, 0), (1, 1)),
    ((1, 1), (-1, -1), (1, 1)), ((1, 1), (1, -1), (1, 1)), ((1, 1), (1, 1001), (1, 1)), ((1, 1), (1, 1), (HUGE, 1)), ((1, 1), (1, HUGE), (1, 1)),
    ((True, 1), (1, 1), (1, 1)), ((1, 1), (1, True), (1, 1)), ((1, 1), (False, 1), (1, 1)), ((1, 1), (None, 1), (1, 1)), ((1, 1), 1, (1, 1)),
    ((1, 1), (1,), (1, 1)), ((1, 1), (1, 1, 1), (1, 1)), ((1, 1), [1, 1], (1, 1)), ((1, 1), "11", (1, 1)), ((1, 1), {}, (1, 1)),
    ((1, 1), ("1", 1), (1, 1)), ((1, 1), ((1,), 1), (1, 1)), ((1, 1), ([], 1), (1, 1)), (1, 1, 1),
])
WEIGHTS = plain("BadWeights", [
    None, *ODD, 1, (), (1,), (1, 1), (1, 1, 1, 1), (1, 1, 0), (101, 1, 1), (-1, 1, 1), (1, HUGE, 1), (1, True, 1), (False, 1, 1),
    (1, 1, None), (1, 1, "1"), (1, (1,), 1), (1, [1], 1), (1, {}, 1), [1, 1, 1], "111", ((1, 1, 1),),
])
OTHER_THAN_2 = DOORS + plain("BadDoor", [2])
# Values that are no answer, whatever the question was.
NO_ANSWERS = [*ODD, (), [], (0,), (None,), ("0",), 3, 9, "None", ((0, 1, 2),), (0, 1), (0, 1, 2, 3), [0, 1, 2], (0, 1, "2"),
              (False, True, 2), (False, 1, 2), (0, 0, 0), (0, 1, []), {"a": [1]}, (0, 1, HUGE)]


def bends(value):
    """Values a little unlike a value: items left out, exchanged, put in, or of another kind."""
    if not isinstance(value, tuple):
        yield from [None, str(value), [value], (value,), {}, ()]
        if isinstance(value, int):
            yield from [value + 1, value - 1, -value, HUGE]
            if value in (0, 1):
                yield bool(value)
        return
    yield list(value)
    yield value[::-1]
    for at, item in enumerate(value):
        yield value[:at] + value[at + 1:]
        yield value[:at] + (item,) + value[at:]
        yield value[:at] + value[at + 1:at + 2] + (item,) + value[at + 2:]
        for bent in bends(item):
            yield value[:at] + (bent,) + value[at + 1:]
    for more in [None, 0, (), value]:
        yield value + (more,)
