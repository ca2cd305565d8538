"""Namings with limits (point 19)."""

import fractions
import itertools
import unittest

from firstthere.errors import BadCount, BadTable, BadWishes, TooMany
from firstthere.limits import (
    best_change, best_naming, is_settled, naming_paper, shows_best_naming, shows_naming_paper)
from tests.support import (
    OFFICE, ODD_VALUES, Case, all_deputies, all_lots, as_mean, few_deputies, held_when, near, some_rows)

WISHES = ((0, 4, 0, 1), (2, 0, 3, 0), (0, 6, 0, 2))
PAPER = (((1, 1), (3, 1), (3, 1)), ((0, 1), (3, 1), (0, 1)))


def wish_of(wishes, person, deputy):
    """The wish for nobody is the last one."""
    return wishes[person][deputy if deputy != OFFICE else len(wishes)]


def sum_of_wishes(wishes, deputies):
    return sum(wish_of(wishes, person, deputy) for person, deputy in enumerate(deputies))


def all_best(wishes, most):
    """All pairs of the greatest sum and deputies, nobody of them named more often, that have it."""
    found = []
    for deputies in all_deputies(len(wishes)):
        if all(deputies.count(person) <= most for person in range(len(wishes))):
            found.append((sum_of_wishes(wishes, deputies), deputies))
    greatest = max(found)[0]
    return [pair for pair in found if pair[0] == greatest]


def is_ratio(value):
    if value.__class__ is not tuple or [each.__class__ for each in value] != [int, int] or value[1] < 1:
        return False
    low = fractions.Fraction(*value)
    return (low.numerator, low.denominator) == value


def is_paper(wishes, most, greatest, value):
    """Whether the value is what the document says of a paper."""
    size = len(wishes)
    if value.__class__ is not tuple or len(value) != 2:
        return False
    for each in value:
        if each.__class__ is not tuple or len(each) != size or not all(is_ratio(one) for one in each):
            return False
    naming, named = [[fractions.Fraction(*one) for one in each] for each in value]
    pairs = itertools.permutations(range(size), 2)
    return (
        min(named) >= 0
        and all(naming[person] + named[other] >= wishes[person][other] for person, other in pairs)
        and all(naming[person] >= wishes[person][size] for person in range(size))
        and sum(naming) + most * sum(named) == greatest)


def wishes_with_own_ones_changed(wishes):
    """What a person wishes of itself plays no part."""
    for number in (-100, 100):
        yield tuple((*row[:at], number, *row[at + 1:]) for at, row in enumerate(wishes))


def means_near(deputies, table, many):
    """The mean worths of all deputies that differ for at most one person."""
    people = range(len(deputies))
    lots = [lot for lot in all_lots(len(deputies)) if len(lot) == many]
    named = [(at, one) for at in people for one in (OFFICE, *people) if one != at]
    for others in {(*deputies[:at], one, *deputies[at + 1:]) for at, one in named} | {deputies}:
        held = [held_when(others, lot) for lot in lots]
        yield others, as_mean([sum(wish_of(table, duty, by) for duty, by in enumerate(row)) for row in held])


class WorkedOut(Case):
    def test_best_naming(self):
        self.same(best_naming(1, ((100, -7),), 1), (-7, (-1,)))
        self.same(best_naming(2, ((0, 5, 1), (2, 0, 3)), 1), (8, (1, -1)))
        self.same(best_naming(2, ((0, 5, 1), (4, 0, 3)), 1), (9, (1, 0)))
        self.same(best_naming(3, WISHES, 2), (13, (1, 2, 1)))
        self.same(best_naming(6, ((-100,) * 6 + (100,),) * 6, 1), (600, (-1,) * 6))
        self.same(best_naming(6, ((100,) * 6 + (-100,),) * 6, 1)[0], 600)
        star = ((0, 0, 0, 0, 0, 100, 0),) * 5 + ((0,) * 6 + (1,),)
        self.same([best_naming(6, star, most)[0] for most in range(1, 7)], [101, 201, 301, 401, 501, 501])

    def test_shows_best_naming(self):
        self.same(shows_best_naming(3, WISHES, 1, (10, (-1, 2, 1))), True)
        self.same(shows_best_naming(3, WISHES, 2, (10, (-1, 2, 1))), False)
        self.same(shows_best_naming(3, WISHES, 1, (13, (1, 2, 1))), False)
        self.same(shows_best_naming(3, WISHES, 1, (10, (1, 2, 1))), False)
        self.same(shows_best_naming(3, WISHES, 1, (9, (1, 2, 0))), False)
        self.same(shows_best_naming(2, ((0, 1, 1), (1, 0, 1)), 1, (2, (-1, 0))), True)

    def test_naming_paper(self):
        self.same(naming_paper(1, ((100, -7),), 1), (((-7, 1),), ((0, 1),)))
        self.same(naming_paper(2, ((0, 5, 1), (2, 0, 3)), 6), (((5, 1), (3, 1)), ((0, 1), (0, 1))))

    def test_shows_naming_paper(self):
        self.same(shows_naming_paper(3, WISHES, 1, PAPER), True)
        self.same([shows_naming_paper(3, WISHES, most, PAPER) for most in (2, 3)], [True, False])
        plain = (((4, 1), (3, 1), (6, 1)), ((0, 1), (0, 1), (0, 1)))
        self.same([shows_naming_paper(3, WISHES, most, plain) for most in (1, 2, 3)], [False, True, True])
        self.same(shows_naming_paper(3, WISHES, 2, (((4, 1), (3, 1), (5, 1)), ((0, 1), (0, 1), (0, 1)))), False)
        self.same(shows_naming_paper(3, WISHES, 1, (((3, 2), (3, 1), (7, 2)), ((0, 1), (5, 2), (0, 1)))), False)
        halves = (((0, 1), (-1, 2)), ((1, 2), (0, 1)))
        self.same(shows_naming_paper(2, ((0, 0, -9), (0, 0, -9)), 1, halves), True)
        self.same(shows_naming_paper(2, ((0, 0, -9), (0, 0, -9)), 2, halves), False)

    def test_best_change(self):
        self.same(best_change((-1,), ((7, -9),), 1), (-9, 1))
        self.same(is_settled((-1,), ((7, -9),), 1), True)
        self.same(best_change((-1, -1), ((0, 9, 0), (4, 0, 0)), 1), (9, 2))
        self.same(best_change((1, -1), ((0, 9, 0), (4, 0, 0)), 1), (13, 2))
        self.same([is_settled((1, -1), ((0, 9, 0), (4, 0, 0)), 1), is_settled((1, 0), ((0, 9, 0), (4, 0, 0)), 1)],
                  [False, True])
        self.same(best_change((-1, -1), ((0, -9, -7), (-3, 0, 0)), 2), (-7, 1))
        self.same(is_settled((-1,) * 6, ((0,) * 7,) * 6, 3), True)


class AllDeputies(Case):
    def test_best_naming(self):
        for size in range(1, 5):
            for wishes in some_rows(size):
                for most in range(1, 7):
                    good = [repr(pair) for pair in all_best(wishes, most)]
                    with self.subTest(size=size, wishes=wishes, most=most):
                        self.assertIn(repr(best_naming(size, wishes, most)), good)
                        self.assertIs(shows_best_naming(size, wishes, most, best_naming(size, wishes, most)), True)

    def test_best_naming_of_5_and_6_people(self):
        for size, mosts in ((5, (1, 2, 3)), (6, (1, 2))):
            for wishes in list(some_rows(size))[3:5]:
                for most in mosts:
                    found = best_naming(size, wishes, most)
                    with self.subTest(size=size, wishes=wishes, most=most):
                        self.assertIn(repr(found), [repr(pair) for pair in all_best(wishes, most)])
                        self.assertIs(shows_best_naming(size, wishes, most, found), True)

    def test_the_wish_for_oneself_plays_no_part(self):
        for size in range(1, 6):
            for wishes in list(some_rows(size))[2:]:
                for most in (1, 2):
                    best = best_naming(size, wishes, most)
                    for other in wishes_with_own_ones_changed(wishes):
                        self.same(best_naming(size, other, most)[0], best[0])
                        self.assertIs(shows_best_naming(size, other, most, best), True)
                        self.assertIs(shows_best_naming(size, wishes, most, best_naming(size, other, most)), True)
                        paper = naming_paper(size, wishes, most)
                        self.assertIs(shows_naming_paper(size, other, most, paper), True)

    def test_shows_best_naming(self):
        for size in range(1, 4):
            for wishes in some_rows(size):
                for most in (1, 2, 3):
                    good = all_best(wishes, most)
                    others = [(sum_of_wishes(wishes, deputies), deputies) for deputies in all_deputies(size)]
                    others += [(good[0][0], deputies) for deputies in all_deputies(size)]
                    others += [(good[0][0], deputies[1:]) for deputies in all_deputies(size)[:5]]
                    self.shows(shows_best_naming, (size, wishes, most), good, others)

    def test_shows_best_naming_of_4_people(self):
        for wishes in some_rows(4):
            for most in (1, 2, 4):
                texts = {repr(pair) for pair in all_best(wishes, most)}
                best = best_naming(4, wishes, most)
                others = [(best[0], deputies) for deputies in all_deputies(4)[::7]]
                others += [(sum_of_wishes(wishes, deputies), deputies) for deputies in all_deputies(4)[::5]]
                for value in (*others, *near(best)):
                    self.assertIs(shows_best_naming(4, wishes, most, value), repr(value) in texts, value)


class Papers(Case):
    def test_naming_paper(self):
        for size in range(1, 6):
            for wishes in some_rows(size):
                for most in range(1, 7):
                    greatest = best_naming(size, wishes, most)[0]
                    paper = naming_paper(size, wishes, most)
                    with self.subTest(size=size, wishes=wishes, most=most):
                        self.assertTrue(is_paper(wishes, most, greatest, paper), paper)
                        self.assertIs(shows_naming_paper(size, wishes, most, paper), True)

    def test_many_wishes(self):
        numbers = itertools.cycle((3, -1, 4, 1, -5, 9, 2, 6, -5, 3, 5, 8, -9, 7, 9, 3, 2, 3, 8, 4, -6, 2, 6))
        for size in (2, 3, 4, 5):
            for _ in range(40):
                wishes = tuple(tuple(next(numbers) for _ in range(size + 1)) for _ in range(size))
                for most in (1, 2, 3):
                    paper = naming_paper(size, wishes, most)
                    greatest = all_best(wishes, most)[0][0] if size < 4 else best_naming(size, wishes, most)[0]
                    with self.subTest(wishes=wishes, most=most):
                        self.assertTrue(is_paper(wishes, most, greatest, paper), paper)

    def test_near_and_odd_values(self):
        for size in range(1, 4):
            for wishes in (*some_rows(size), *([WISHES] if size == 3 else [])):
                for most in (1, 2):
                    greatest = all_best(wishes, most)[0][0]
                    paper = naming_paper(size, wishes, most)
                    for value in (paper[::-1], *near(paper), *ODD_VALUES, 0, ()):
                        expected = is_paper(wishes, most, greatest, value)
                        with self.subTest(wishes=wishes, most=most, value=value):
                            self.assertIs(shows_naming_paper(size, wishes, most, value), expected)

    def test_all_papers_of_a_grid(self):
        naming = [(-1, 1), (0, 1), (1, 2), (1, 1), (3, 2), (2, 1), (3, 1), (4, 2), (1, 0), (3, -1)]
        named = [(0, 1), (1, 2), (1, 1), (3, 2), (2, 1), (-1, 1), (0, 2), (0, -1), (2, 2)]
        shown = 0
        some = (((9, 3, 1), (2, 9, 0)), ((0, 1, 1), (0, 0, -1)), ((0, -2, 0), (3, 0, 2)), ((0, 2, 0), (1, 0, -1)))
        for wishes in some:
            for most in (1, 2):
                greatest = all_best(wishes, most)[0][0]
                for value in itertools.product(itertools.product(naming, repeat=2), itertools.product(named, repeat=2)):
                    expected = is_paper(wishes, most, greatest, value)
                    shown += expected
                    self.assertIs(shows_naming_paper(2, wishes, most, value), expected, (wishes, most, value))
        self.assertGreater(shown, 20)

    def test_numbers_below_0_for_those_who_name_alone(self):
        wishes = ((0, -50, -60), (-70, 0, -80))
        self.assertIs(shows_naming_paper(2, wishes, 1, (((-50, 1), (-70, 1)), ((0, 1), (0, 1)))), True)
        self.assertIs(shows_naming_paper(2, wishes, 1, (((-50, 1), (-71, 1)), ((1, 1), (0, 1)))), True)
        self.assertIs(shows_naming_paper(2, wishes, 1, (((-51, 1), (-71, 1)), ((1, 1), (1, 1)))), True)
        self.assertIs(shows_naming_paper(2, wishes, 1, (((-50, 1), (-69, 1)), ((-1, 1), (0, 1)))), False)
        self.assertIs(shows_naming_paper(2, wishes, 1, (((-61, 1), (-70, 1)), ((0, 1), (11, 1)))), False)
        self.assertIs(shows_naming_paper(2, wishes, 1, (((-60, 1), (-70, 1)), ((0, 1), (10, 1)))), True)

    def test_large_numbers(self):
        big = 10 ** 60
        wishes = ((0, 1, 0), (1, 0, 0))
        part, rest = (1, big), (big - 1, big)
        self.assertIs(shows_naming_paper(2, wishes, 1, ((part, part), (rest, rest))), True)
        self.assertIs(shows_naming_paper(2, wishes, 1, ((part, rest), (part, rest))), True)
        self.assertIs(shows_naming_paper(2, wishes, 1, ((part, rest), (rest, part))), False)
        self.assertIs(shows_naming_paper(2, wishes, 1, ((part, part), (rest, (big - 3, big)))), False)


class Changes(Case):
    def test_best_change(self):
        settled = set()
        for deputies in few_deputies():
            size = len(deputies)
            for table in list(some_rows(size))[1::2 if size < 5 else 3]:
                for many in range(0, size + 1, 1 if size < 5 else 2):
                    means = dict(means_near(deputies, table, many))
                    greatest = max(means.values(), key=lambda mean: fractions.Fraction(*mean))
                    settled.add(means[deputies] == greatest)
                    with self.subTest(deputies=deputies, table=table, many=many):
                        self.same(best_change(deputies, table, many), greatest)
                        self.same(is_settled(deputies, table, many), means[deputies] == greatest)
        self.assertEqual(settled, {True, False})

    def test_two_changes_are_too_many(self):
        table = ((0, 9, 0, 0), (0, 0, 9, 0), (9, 0, 0, 0))
        self.same([best_change(deputies, table, 1) for deputies in ((-1, -1, -1), (1, -1, -1), (1, 2, -1), (1, 2, 0))],
                  [(3, 1), (6, 1), (9, 1), (9, 1)])


class Wrong(Case):
    def test_wishes_at_both_ends(self):
        for number in (-100, 100, 0):
            self.same(best_naming(1, ((0, number),), 1), (number, (-1,)))
            self.same(best_naming(1, ((number, 0),), 1), (0, (-1,)))
        for number in (-101, 101, 1000, True, "1", None, (1,), [1]):
            for wishes in (((number, 0),), ((0, number),)):
                for call in (best_naming, naming_paper):
                    self.fails(BadWishes, call, 1, wishes, 1)
                for call in (shows_best_naming, shows_naming_paper):
                    self.fails(BadWishes, call, 1, wishes, 1, None)
                for call in (best_change, is_settled):
                    self.fails(BadTable, call, (-1,), wishes, 0)

    def test_numbers_just_outside(self):
        for size in range(1, 7):
            rows = ((0,) * (size + 1),) * size
            for most in (0, -1, 7, True, None, "1", (1,)):
                for call in (best_naming, naming_paper):
                    self.fails(BadCount, call, size, rows, most)
                for call in (shows_best_naming, shows_naming_paper):
                    self.fails(BadCount, call, size, rows, most, None)
            for many in (-1, size + 1, True, None):
                for call in (best_change, is_settled):
                    self.fails(BadCount, call, (-1,) * size, rows, many)

    def test_size_6_where_5_are_most(self):
        rows = ((0,) * 7,) * 6
        self.fails(TooMany, naming_paper, 6, rows, 1, most=5)
        for value in (None, ((((0, 1),) * 6,) * 2), 0):
            self.fails(TooMany, shows_naming_paper, 6, rows, 1, value, most=5)
        self.same(best_naming(6, rows, 1)[0], 0)
        self.same(shows_best_naming(6, rows, 1, (0, (-1,) * 6)), True)
        self.same(naming_paper(5, ((0,) * 6,) * 5, 1), (((0, 1),) * 5,) * 2)

    def test_all_other_errors_come_first(self):
        rows = ((0,) * 7,) * 6
        for call, *values in ((naming_paper,), (shows_naming_paper, None)):
            for wishes in (None, rows[1:], rows + rows[:1], list(rows), ((0,) * 6,) * 6, ((101,) * 7,) * 6):
                self.fails(BadWishes, call, 6, wishes, 1, *values)
                self.fails(BadWishes, call, 6, wishes, 0, *values)
            for most in (0, 7, True, None, "1"):
                self.fails(BadCount, call, 6, rows, most, *values)


if __name__ == "__main__":
    unittest.main()
