"""Values that are not allowed, for the tests of errors."""

# An integer, a string, a boolean, None, a tuple, a list, a dict, and those of such.
ODD_VALUES = (
    "", "0", "01", True, False, None, [], [0], [0, 1], ["0"], {}, {0: 1}, {"0": [None]},
    ("0",), (None,), (True,), (False,), ((),), ((0,),), ([0],), ({},), (0, True), (False, 1), (0, "1"), (0, None),
)

NO_DEPUTIES = ODD_VALUES + (
    (), 0, 1, -1, (0,), (1,), (-2,), (0, -1), (-1, 1), (2, -1), (1, -2), (1, 2, 3), (True, -1), (1, False), [1, -1],
    (1, -1, "0"), (1, -1, (0,)), {0: 1, 1: -1}, (-1, -1, -1, -1, -1, -1, -1), (1, 2, 3, 4, 5, 6, -1),
)

NO_COUNTS_AT_ALL = ODD_VALUES + ((1,), [1], {1: 1}, -1, -2, 61, 1000, "2", (), (2, 1))
NO_COUNTS_TO_6 = NO_COUNTS_AT_ALL + (7, 8)
NO_SIZES = NO_COUNTS_AT_ALL + (0, 7, 8, (1, 0, -1))
NO_COUNTS_FROM_1 = NO_COUNTS_AT_ALL + (0, 62, 10 ** 30)
NO_WEIGHTS_ALONE = ODD_VALUES + (
    (), 0, 1, 60, (0,), (-1,), (61,), (1, 0), (0, 1), (1, -1), (60, 61), (1, 1000), (1, True), (True, 1), [1, 2], [1],
    (1, "1"), ("1", 1), (1, None), (1, (1,)), (1, [1]), {0: 1, 1: 2}, "12", (1, 1, 1, 1, 1, 0), (1,) * 7, (60,) * 8,
)

# The next ones are wrong for three people.
NO_COUNTS_TO_3 = NO_COUNTS_TO_6 + (4, 5, 6)
NO_WEIGHTS = NO_WEIGHTS_ALONE + (
    (1,), (1, 2), (1, 2, 3, 4), (0, 1, 2), (1, 0, 2), (1, 2, 0), (61, 1, 2), (1, 2, 61), (1, -5, 2), (1, 2, True),
    (True, 2, 3), (1, "2", 3), (1, None, 3), (1, 2, (3,)), [1, 2, 3], {0: 1, 1: 2, 2: 3}, "123", (1, 2, 3, 0),
)
NO_COSTS = ODD_VALUES + (
    (), 0, 1, (0,), (1, 2), (0, 0, 0, 0), (-1, 0, 0), (0, -1, 0), (0, 0, -1), (1001, 0, 0), (0, 0, 1001), (0, 5000, 0),
    (0, 1, True), (False, 1, 2), (0, "1", 2), (0, None, 2), (0, 1, (2,)), (0, [1], 2), (0, {}, 2), [0, 1, 2],
    {0: 0, 1: 1, 2: 2}, "012",
)
NO_ORDERS = ODD_VALUES + (
    0, 1, -1, (-1,), (3,), (0, 0), (1, 0, 1), (0, -1), (0, 1, 2, 3), (1, 0, -1), [1, 0], [0, 1, 2], (2, 1, False),
)
NO_LOTS = NO_ORDERS + ((1, 0), (0, 2, 1), (2, 1, 0))
NO_HOLDERS = ODD_VALUES + ((), (0,), (1, 0), -2, 3, 4, 100, -100)
NO_PEOPLE = NO_HOLDERS + (-1,)
NO_WHOLE_ORDERS = NO_ORDERS + ((), (0,), (2, 1))

NO_TOLD = tuple((value, None) for value in ODD_VALUES if not isinstance(value, tuple)) + (
    (0, None), (-1, None), ([(0, (0,))], None), ({0: (0,)}, None), ([], None),
    ((0,), 0), (("0",), 0), ((None,), 0), ((True,), 0), (([],), 0), (({},), 0), (((),), 0),
    ((0, (0,)), 0), (((0,),), 0), (((0, (0,), 1),), 0), (([0, (0,)],), 0), (("00",), 0),
    (((-1, (0,)),), 0), (((3, (0,)),), 0), (((True, (0,)),), 0), ((("0", (0,)),), 0), (((None, (0,)),), 0),
    (((0, ()),), 0), (((0, 0),), 0), (((0, "0"),), 0), (((0, [0]),), 0), (((0, {0: 0}),), 0), (((0, None),), 0),
    (((0, (0, 0)),), 0), (((0, (-1, 0)),), 0), (((0, (0, -1, 1)),), 0), (((0, (0, -1, -1)),), 0),
    (((0, (0, 3)),), 0), (((0, (0, -2)),), 0), (((0, (False, 1)),), 0), (((0, (0, True)),), 0),
    (((0, ((0,),)),), 0), (((0, (0, [])),), 0), (((0, (0, {})),), 0), (((0, (0, "1")),), 0),
    (((0, (0,)), (0, (0,))), 1), (((1, (1,)), (0, (0,))), 1), (((0, (0,)), None), 1), (((0, (0,)), (1, ())), 1),
    (((1, (1,)), (0, (0,)), None), 1), (((1, ()), (0, (0,)), None), 0),
    (((0, (0,)), (2, (2,)), (1, (1,))), 2), (((0, (0,)), (1, (1,)), (1, (1,))), 2),
    (((0, (0,)), (1, (1,)), (2, (2,)), (3, (0,))), 3), (((0, (0,)), (1, (1,)), (2, (2,)), (2, (2,))), 3),
)


# A row of three people's holders, and one of their loads and the office's, with rows that are wrong instead.
HELD = (1, 1, 2)
NO_HELD = ODD_VALUES + (
    (), 0, 1, (0,), (0, 1), (0, 1, 2, -1), (0, 1, 3), (3, 1, 2), (0, -2, 2), (0, 1, True), (False, 1, 2), (0, "1", 2),
    (0, None, 2), (0, 1, (2,)), (0, [1], 2), (0, {}, 2), [0, 1, 2], [1, 1, 2], {0: 0, 1: 1, 2: 2}, "012",
)
LOADS = (0, 2, 1, 0)
NO_LOADS = ODD_VALUES + (
    (), 0, 1, (0,), (0, 2, 1), (0, 2, 1, 0, 0), (0, 1, 2), (-1, 2, 1, 0), (0, 2, 1, -1), (4, 0, 0, 0), (0, 0, 0, 4),
    (0, 2, True, 0), (False, 2, 1, 0), (0, "2", 1, 0), (0, 2, None, 0), (0, 2, 1, (0,)), (0, [2], 1, 0), (0, {}, 1, 0),
    [0, 2, 1, 0], {0: 0, 1: 2, 2: 1, 3: 0}, "0210",
)


def no_sights(row, no_rows):
    """What is no sights of three people, each with the index that the error tells."""
    seen = ((0,), row)
    no_tuples = [value for value in ODD_VALUES if not isinstance(value, tuple)]
    found = [(value, None) for value in (*no_tuples, (), 0, -1, [seen], {0: seen}, (seen,) * 9, (None,) * 9)]
    no_pairs = [*ODD_VALUES, (), 0, seen[:1], seen * 2, (*seen, 0), list(seen), seen[::-1], {0: (0,), 1: row}, "01"]
    wrong = no_pairs + [(lot, row) for lot in NO_LOTS] + [((0,), other) for other in no_rows]
    for one in wrong:
        found += [((one,), 0), ((seen, one), 1), ((seen, seen, one, one, seen), 2), ((seen,) * 7 + (one,), 7)]
    return tuple(found)


NO_SIGHTS = no_sights(HELD, NO_HELD)
NO_LOAD_SIGHTS = no_sights(LOADS, NO_LOADS)


# Rows of what each holding is worth: tables, and wishes too. The next ones are wrong for three people.
ROWS = ((100, -100, 0, 7), (1, 2, 3, 4), (0, -1, 0, 60))
NO_ROW = ODD_VALUES + (
    (), 0, 1, (0,), (0, 0, 0), (0, 0, 0, 0, 0), (101, 0, 0, 0), (0, -101, 0, 0), (0, 0, 1000, 0), (0, 0, 0, 101),
    (0, 0, 0, -101), (0, True, 0, 0), (False, 0, 0, 0), (0, "1", 0, 0), (0, None, 0, 0), (0, 0, (0,), 0),
    (0, 0, 0, [0]), (0, {}, 0, 0), [0, 0, 0, 0], {0: 0, 1: 0, 2: 0, 3: 0}, "0000",
)
NO_TABLES = ODD_VALUES + (
    (), 0, -1, ROWS[0], ROWS[:1], ROWS[:2], ROWS + ROWS[:1], ROWS * 2, list(ROWS), {0: ROWS[0], 1: ROWS[1], 2: ROWS[2]},
) + tuple((*ROWS[:at], row, *ROWS[at + 1:]) for at in range(3) for row in NO_ROW)


def no_lots():
    """What is no tuple of at most 30 lots of three people, each with the index that the error tells."""
    no_tuples = [value for value in ODD_VALUES if not isinstance(value, tuple)]
    found = [(value, None) for value in (*no_tuples, 0, -1, [(0,)], [()], {(0,): 1}, ((0,),) * 31, (None,) * 40)]
    for one in NO_LOTS:
        found += [((one,), 0), (((), one), 1), (((0, 1), (0, 1), one, one, (0,)), 2), (((),) * 29 + (one,), 29)]
    return tuple(found)


NO_LOTS_IN_ROWS = no_lots()
# Those that are wrong for six people too.
NO_LOTS_OF_6_IN_ROWS = tuple((value, index) for value, index in NO_LOTS_IN_ROWS if "3" not in repr(value)) + (
    (((6,),), 0), (((0, 3), (5, 6)), 1), (((5, 3),), 0), (((0, 1, 2, 3, 4, 5, 6),), 0), (((),) * 29 + ((5, 5),), 29),
)


def no_wanted():
    """What is no wanted holders of three people, each with the index that the error tells."""
    no_tuples = [value for value in ODD_VALUES if not isinstance(value, tuple)]
    found = [(value, None) for value in (*no_tuples, 0, -1, [(0, 1)], [()], {0: 1})]
    no_pairs = [*ODD_VALUES[:-4], (), 0, 1, -1, (0,), (0, 1, 2), [0, 1], {0: 1}, "01", (0, "1"), (0, None), (0, (1,)),
                (True, 1), (2, True), (-1, 0), (3, 0), (0, 3), (0, -2), (-1, -1), ("0", 1), ((0,), 1), (None, 0)]
    for one in no_pairs:
        found += [((one,), 0), (((0, 1), one), 1), (((0, 0), (1, -1), one, one), 2), ((one, (0, 1), (0, 1)), 0)]
    for one in ((0, 1), (0, 0), (0, -1)):
        found += [(((0, 1), one), 1), (((1, 1), one), 1), (((0, 1), (2, 1), one), 2), (((0, 1), one, None), 1)]
    return tuple(found) + ((((0, 1), (2, 1), (1, 1)), 2), (((0, 1), (1, 1), (2, 2), (2, 2)), 3))


NO_WANTED = no_wanted()


# Deputies of three people are asked for; these are allowed ones of another size, or none at all.
NO_DEPUTIES_OF_3 = NO_DEPUTIES + ((-1,), (1, 0), (1, -1), (-1, -1, -1, -1), (1, 2, 3, 0), (1, 2, 0, -1, -1, -1))
NO_DATES_ALONE = NO_COSTS[:len(ODD_VALUES)] + (
    (), 0, 1, 1000, (-1,), (1001,), (-5, 0), (0, 1001), (0, 5000, 0), (True, 0), (0, 1, False), (0, "1"), (None, 0),
    (0, (1,)), ([0], 1), [0, 1, 2], [0], {0: 0, 1: 1}, "012", (0,) * 7, (1000,) * 8,
)
NO_TEXTS = tuple(value for value in ODD_VALUES if not isinstance(value, str)) + (
    0, 1, -1, (), ("0>-",), ["0>-"], {"0>-": "0>-"}, {0: "0>-"}, (("0>-",),),
)
NO_LIMITS = tuple(value for value in NO_COSTS if "1001" not in repr(value) and "5000" not in repr(value)) + (
    (6001, 0, 0), (0, 6001, 0), (0, 0, 6001), (0, 10000, 0), (0, 6000), (6000, 6000, 6000, 6000), [6000, 0, 0],
)
