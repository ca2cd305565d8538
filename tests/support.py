"""What the tests share: deputies to try, a second way to hand duties on, and how a test asks."""

import copy
import fractions
import functools
import itertools
import unittest

from firstthere.errors import InvalidText
from tests.wrong import ODD_VALUES

OFFICE = -1


def all_deputies(size):
    """All deputies of a size."""
    choices = [[one for one in range(OFFICE, size) if one != person] for person in range(size)]
    return list(itertools.product(*choices))


# Rounds of every length, two and three rounds, chains into a round, people who name nobody.
LARGE = (
    (-1, -1, -1, -1, -1),
    (1, 2, 3, 4, 0),
    (1, 0, 3, 4, 2),
    (1, 0, 1, 2, -1),
    (4, 0, 1, 2, 3),
    (-1, 0, 1, 2, 3),
    (2, 2, -1, 2, 3),
    (-1, -1, -1, -1, -1, -1),
    (1, 2, 3, 4, 5, -1),
    (1, 2, 3, 4, 5, 0),
    (5, 2, 1, 4, 3, 0),
    (1, 2, 0, 2, 3, -1),
    (3, 3, 3, 2, 0, 1),
    (5, 5, 5, 5, 5, -1),
    (1, 2, 3, 2, 5, 1),
)


def some_deputies():
    """All deputies of sizes 1 to 4, and some of sizes 5 and 6."""
    small = [deputies for size in range(1, 5) for deputies in all_deputies(size)]
    return small + list(LARGE)


def few_deputies():
    """All deputies of sizes 1 to 3, some of sizes 4, 5 and 6."""
    small = [deputies for size in range(1, 4) for deputies in all_deputies(size)]
    return small + all_deputies(4)[::17] + list(LARGE)


def all_lots(size):
    return [lot for many in range(size + 1) for lot in itertools.combinations(range(size), many)]


def all_orders(size):
    return [order for many in range(size + 1) for order in itertools.permutations(range(size), many)]


def whole_orders(size):
    return list(itertools.permutations(range(size)))


def next_there(deputies, gone, leaver):
    """To whom the leaver hands on: its deputy, or that one's, and so on, the first one there."""
    at = leaver
    for _ in deputies:
        at = deputies[at]
        if at == OFFICE or at not in gone:
            return at
    return OFFICE


def handed_on(deputies, order):
    """The holders at first and behind each leaving, duty by duty handed on by those who leave."""
    held = list(range(len(deputies)))
    found = [tuple(held)]
    gone = set()
    for leaver in order:
        gone.add(leaver)
        to = next_there(deputies, gone, leaver)
        held = [to if one == leaver else one for one in held]
        found.append(tuple(held))
    return tuple(found)


@functools.lru_cache(maxsize=None)
def held_when(deputies, lot):
    """The holders when the lot has left."""
    return handed_on(deputies, lot)[-1]


def loads_when(deputies, lot):
    """The loads of 0, 1, .. and, last, of the office when the lot has left."""
    held = held_when(deputies, lot)
    return tuple(held.count(one) for one in (*range(len(deputies)), OFFICE))


def all_but(size, *people):
    return tuple(one for one in range(size) if one not in people)


def can_come_to(deputies, duty, person):
    """Whether the person is on the duty's chain: whether it holds the duty when all others have left."""
    return held_when(deputies, all_but(len(deputies), person))[duty] == person


@functools.lru_cache(maxsize=None)
def rows_in_time(deputies):
    """For each whole order, the holders at first and behind each leaving."""
    return [(order, handed_on(deputies, order)) for order in whole_orders(len(deputies))]


def as_ratio(top, bottom=1):
    number = fractions.Fraction(top, bottom)
    return (number.numerator, number.denominator)


def as_mean(numbers):
    return as_ratio(sum(numbers), len(numbers))


@functools.lru_cache(maxsize=None)
def chance_of_each(weights):
    """The chance of each whole order: one by one, each next one with its part of the weights that are left."""
    found = {}

    def go_on(order, chance):
        left = [person for person in range(len(weights)) if person not in order]
        if not left:
            found[order] = chance
        for person in left:
            part = fractions.Fraction(weights[person], sum(weights[one] for one in left))
            go_on((*order, person), chance * part)

    go_on((), fractions.Fraction(1))
    return found


def chance_that(weights, holds):
    """The chance that a whole order is one for which this holds."""
    return as_ratio(sum((chance for order, chance in chance_of_each(weights).items() if holds(order)), 0))


def some_rows(size):
    """Rows of what each holding is worth: nothing, the ends of the range, and others."""
    everything = (-100, 100, 0, 1, -1, 37, 64, -53, 99, -7, 12)
    yield ((0,) * (size + 1),) * size
    yield tuple((100,) * size + (-100,) for _ in range(size))
    yield tuple((-100,) * size + (100,) for _ in range(size))
    for step in (1, 3, 7):
        cells = [everything[step * at * (at + 3) // 2 % 11] for at in range(step, step + size * (size + 1))]
        yield tuple(tuple(cells[at * (size + 1):(at + 1) * (size + 1)]) for at in range(size))


def without_repeats(held):
    """The row without a thing that is like the one before."""
    return tuple(one for place, one in enumerate(held) if place == 0 or held[place - 1] != one)


def near(value):
    """Values like this one: a thing changed or of another kind, a row in another order, longer or shorter."""
    if not isinstance(value, tuple):
        others = [value, str(value), True, False, None, (), [value], (value,), {"0": value}]
        return others + ([value - 1, value + 1, -value] if isinstance(value, int) else [0])
    rows = [
        list(value), dict(enumerate(value)), str(value), value[::-1], value[:-1], value[1:], value * 2, (value,),
        (*value, 0), (*value, -1), (*value, None), (0, *value), None, len(value)]
    changed = [(*value[:at], other, *value[at + 1:]) for at in range(len(value)) for other in near(value[at])]
    return rows + changed


def changed_texts(text, characters):
    """The texts with one character put in, taken out, or changed to another one of these."""
    for at in range(len(text) + 1):
        yield from (text[:at] + one + text[at:] for one in characters)
        yield from (text[:at] + one + text[at + 1:] for one in ("", *characters))


def first_digit(text, place):
    """The place of the first digit of the number that has a digit at the place, the place itself otherwise."""
    digits = "0123456789"
    while place > 0 and text[place] in digits and text[place - 1] in digits:
        place -= 1
    return place


def first_place(text, is_begun):
    """The first place up to which the text is not the beginning of any allowed one, its length if there is none."""
    for place in range(len(text)):
        if not is_begun(text[:place + 1]):
            return first_digit(text, place)
    return len(text)


class Case(unittest.TestCase):
    def same(self, got, expected):
        """Equal, and of equal kinds: True is not 1, a list is no tuple."""
        self.assertEqual(got, expected)
        self.assertEqual(repr(got), repr(expected))

    def fails(self, error, call, *values, **fields):
        """The call raises just this error, with these fields, and changes no argument."""
        before = copy.deepcopy(values)
        with self.subTest(call=call.__name__, values=values):
            with self.assertRaises(error) as caught:
                call(*values)
            self.assertIs(caught.exception.__class__, error)
            self.assertEqual(repr(vars(caught.exception)), repr(fields))
            self.assertEqual(repr(values), repr(before))

    def reads_text(self, call, text, named, place):
        """The call returns what the text names; it raises the error with the place if that is None."""
        with self.subTest(text=text):
            if named is None:
                self.fails(InvalidText, call, text, place=place)
            else:
                self.same(call(text), named)

    def shows(self, call, values, good, others=()):
        """The call returns True for the good ones alone: of these, of values near them, of odd and of other ones."""
        texts = {repr(one) for one in good}
        few = [*good[:3], *good[-1:]]
        with self.subTest(call=call.__name__, values=values):
            for value in (*good, *others, *ODD_VALUES, 0, 1, -1, (), *(like for one in few for like in near(one))):
                self.assertIs(call(*values, value), repr(value) in texts, value)
