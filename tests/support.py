"""What the tests share: deputies to try, values that are not allowed, and a second way to hand duties on."""

import copy
import itertools
import unittest

OFFICE = -1


def all_deputies(size):
    """All deputies of a size."""
    choices = [[one for one in range(OFFICE, size) if one != person] for person in range(size)]
    return list(itertools.product(*choices))


# Rounds of every length, two and three rounds, chains into a round, people who name nobody.
LARGE = (
    (-1, -1, -1, -1, -1),
    (1, 2, 3, 4, 0),
    (1, 0, 3, 4, 2),
    (1, 0, 1, 2, -1),
    (4, 0, 1, 2, 3),
    (-1, 0, 1, 2, 3),
    (2, 2, -1, 2, 3),
    (-1, -1, -1, -1, -1, -1),
    (1, 2, 3, 4, 5, -1),
    (1, 2, 3, 4, 5, 0),
    (5, 2, 1, 4, 3, 0),
    (1, 2, 0, 2, 3, -1),
    (3, 3, 3, 2, 0, 1),
    (5, 5, 5, 5, 5, -1),
    (1, 2, 3, 2, 5, 1),
)


def some_deputies():
    """All deputies of sizes 1 to 4, and some of sizes 5 and 6."""
    small = [deputies for size in range(1, 5) for deputies in all_deputies(size)]
    return small + list(LARGE)


def few_deputies():
    """All deputies of sizes 1 to 3, some of sizes 4, 5 and 6."""
    small = [deputies for size in range(1, 4) for deputies in all_deputies(size)]
    return small + all_deputies(4)[::17] + list(LARGE)


def all_lots(size):
    return [lot for many in range(size + 1) for lot in itertools.combinations(range(size), many)]


def all_orders(size):
    return [order for many in range(size + 1) for order in itertools.permutations(range(size), many)]


def whole_orders(size):
    return list(itertools.permutations(range(size)))


def next_there(deputies, gone, leaver):
    """To whom the leaver hands on: its deputy, or that one's, and so on, the first one there."""
    at = leaver
    for _ in deputies:
        at = deputies[at]
        if at == OFFICE or at not in gone:
            return at
    return OFFICE


def handed_on(deputies, order):
    """The holders at first and behind each leaving, duty by duty handed on by those who leave."""
    held = list(range(len(deputies)))
    found = [tuple(held)]
    gone = set()
    for leaver in order:
        gone.add(leaver)
        to = next_there(deputies, gone, leaver)
        held = [to if one == leaver else one for one in held]
        found.append(tuple(held))
    return tuple(found)


def without_repeats(held):
    """The row without a thing that is like the one before."""
    return tuple(one for place, one in enumerate(held) if place == 0 or held[place - 1] != one)


# An integer, a string, a boolean, None, a tuple, a list, a dict, and those of such.
ODD_VALUES = (
    "", "0", "01", True, False, None, [], [0], [0, 1], ["0"], {}, {0: 1}, {"0": [None]},
    ("0",), (None,), (True,), (False,), ((),), ((0,),), ([0],), ({},), (0, True), (False, 1), (0, "1"), (0, None),
)

NO_DEPUTIES = ODD_VALUES + (
    (), 0, 1, -1, (0,), (1,), (-2,), (0, -1), (-1, 1), (2, -1), (1, -2), (1, 2, 3), (True, -1), (1, False), [1, -1],
    (1, -1, "0"), (1, -1, (0,)), {0: 1, 1: -1}, (-1, -1, -1, -1, -1, -1, -1), (1, 2, 3, 4, 5, 6, -1),
)

# The next ones are wrong for three people.
NO_ORDERS = ODD_VALUES + (
    0, 1, -1, (-1,), (3,), (0, 0), (1, 0, 1), (0, -1), (0, 1, 2, 3), (1, 0, -1), [1, 0], [0, 1, 2], (2, 1, False),
)
NO_LOTS = NO_ORDERS + ((1, 0), (0, 2, 1), (2, 1, 0))
NO_HOLDERS = ODD_VALUES + ((), (0,), (1, 0), -2, 3, 4, 100, -100)
NO_PEOPLE = NO_HOLDERS + (-1,)
NO_WHOLE_ORDERS = NO_ORDERS + ((), (0,), (2, 1))

NO_TOLD = tuple((value, None) for value in ODD_VALUES if not isinstance(value, tuple)) + (
    (0, None), (-1, None), ([(0, (0,))], None), ({0: (0,)}, None), ([], None),
    ((0,), 0), (("0",), 0), ((None,), 0), ((True,), 0), (([],), 0), (({},), 0), (((),), 0),
    ((0, (0,)), 0), (((0,),), 0), (((0, (0,), 1),), 0), (([0, (0,)],), 0), (("00",), 0),
    (((-1, (0,)),), 0), (((3, (0,)),), 0), (((True, (0,)),), 0), ((("0", (0,)),), 0), (((None, (0,)),), 0),
    (((0, ()),), 0), (((0, 0),), 0), (((0, "0"),), 0), (((0, [0]),), 0), (((0, {0: 0}),), 0), (((0, None),), 0),
    (((0, (0, 0)),), 0), (((0, (-1, 0)),), 0), (((0, (0, -1, 1)),), 0), (((0, (0, -1, -1)),), 0),
    (((0, (0, 3)),), 0), (((0, (0, -2)),), 0), (((0, (False, 1)),), 0), (((0, (0, True)),), 0),
    (((0, ((0,),)),), 0), (((0, (0, [])),), 0), (((0, (0, {})),), 0), (((0, (0, "1")),), 0),
    (((0, (0,)), (0, (0,))), 1), (((1, (1,)), (0, (0,))), 1), (((0, (0,)), None), 1), (((0, (0,)), (1, ())), 1),
    (((1, (1,)), (0, (0,)), None), 1), (((1, ()), (0, (0,)), None), 0),
    (((0, (0,)), (2, (2,)), (1, (1,))), 2), (((0, (0,)), (1, (1,)), (1, (1,))), 2),
    (((0, (0,)), (1, (1,)), (2, (2,)), (3, (0,))), 3), (((0, (0,)), (1, (1,)), (2, (2,)), (2, (2,))), 3),
)


class Case(unittest.TestCase):
    def same(self, got, expected):
        """Equal, and of equal kinds: True is not 1, a list is no tuple."""
        self.assertEqual(got, expected)
        self.assertEqual(repr(got), repr(expected))

    def fails(self, error, call, *values, **fields):
        """The call raises just this error, with these fields, and changes no argument."""
        before = copy.deepcopy(values)
        with self.subTest(call=call.__name__, values=values):
            with self.assertRaises(error) as caught:
                call(*values)
            self.assertIs(caught.exception.__class__, error)
            self.assertEqual(repr(vars(caught.exception)), repr(fields))
            self.assertEqual(repr(values), repr(before))
