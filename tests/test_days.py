"""Days away (point 18)."""

import itertools
import unittest

from firstthere.days import (
    day_parting, day_sums, fair_lot, fewest_days, plan, shows_day_parting, shows_fair_lot)
from firstthere.errors import BadCount, BadLots
from tests.support import (
    LARGE, OFFICE, Case, all_lots, few_deputies, held_when, loads_when, near, some_deputies)

CHAIN = (1, 2, 3, 4, 5, -1)
RING = (1, 2, 3, 4, 5, 0)
THREE_ROUNDS = (5, 2, 1, 4, 3, 0)
PAIRS = (1, 0, 1, 2, 3, 4)


def all_partings(size):
    """All ways to part the people into days: on each day those who have its number."""
    found = set()
    for days in itertools.product(range(size), repeat=size):
        lots = {tuple(person for person in range(size) if days[person] == day) for day in days}
        found.add(tuple(sorted(lots)))
    return sorted(found)


PARTINGS = {size: all_partings(size) for size in range(1, 7)}


def may_be_away(deputies, most, lot):
    loads = loads_when(deputies, lot)
    return loads[-1] == 0 and max(loads) <= most


def good_partings(deputies, most):
    """All partings into the least number of days, none if it cannot be."""
    lots = {lot for lot in all_lots(len(deputies)) if may_be_away(deputies, most, lot)}
    found = [parting for parting in PARTINGS[len(deputies)] if lots.issuperset(parting)]
    return [parting for parting in found if len(parting) == min(map(len, found))]


def fair_ones(deputies, many):
    """All pairs (load, lot) of the least greatest load of a person."""
    lots = [lot for lot in all_lots(len(deputies)) if len(lot) == many]
    pairs = [(max(loads_when(deputies, lot)[:-1]), lot) for lot in lots]
    return [pair for pair in pairs if pair[0] == min(pairs)[0]]


def some_days(size):
    lots = all_lots(size)
    yield ()
    yield (lots[-1],)
    yield tuple(lots[:30])
    yield tuple(lots[::-1][:7])
    yield (lots[1], lots[1], lots[-1], lots[1])
    yield (lots[len(lots) // 2],) * 30


class WorkedOut(Case):
    def test_no_days(self):
        for size in range(1, 7):
            self.same(plan((-1,) * size, ()), ())
            self.same(day_sums((-1,) * size, ()), (0,) * (size + 1))

    def test_plan_and_day_sums(self):
        self.same(plan((-1,), ((), (0,), ())), ((0,), (-1,), (0,)))
        self.same(day_sums((-1,), ((), (0,), ())), (2, 1))
        self.same(plan(CHAIN, ((1, 2), (5,))), ((0, 3, 3, 3, 4, 5), (0, 1, 2, 3, 4, -1)))
        self.same(day_sums(CHAIN, ((1, 2), (5,))), (2, 1, 1, 4, 2, 1, 1))
        self.same(plan((1, 0), ((0,),) * 30), ((1, 1),) * 30)
        self.same(day_sums((1, 0), ((0,),) * 30), (0, 60, 0))

    def test_partings(self):
        self.same([fewest_days((-1,), 1), fewest_days((1, 0), 1), fewest_days((1, 0), 2)], [None, None, 2])
        self.same([fewest_days(RING, most) for most in range(1, 7)], [None, 2, 2, 2, 2, 2])
        self.same([fewest_days(THREE_ROUNDS, most) for most in range(1, 7)], [None, 2, 2, 2, 2, 2])
        self.same([fewest_days(CHAIN, most) for most in range(1, 7)], [None] * 6)
        self.same([fewest_days((1, 0, 0, 0), most) for most in range(1, 7)], [None, 4, 2, 2, 2, 2])
        self.same([fewest_days((1, 2, 0), most) for most in range(1, 7)], [None, 3, 2, 2, 2, 2])
        self.same(day_parting((1, 2, 0), 2), ((0,), (1,), (2,)))
        self.same(day_parting((1, 0, 1), 3)[0][0], 0)
        self.same(day_parting((-1,), 6), None)

    def test_shows_day_parting(self):
        self.same(shows_day_parting((1, 2, 0), 3, ((0, 1), (2,))), True)
        self.same(shows_day_parting((1, 2, 0), 3, ((2,), (0, 1))), False)
        self.same(shows_day_parting((1, 2, 0), 3, ((0,), (1,), (2,))), False)
        self.same(shows_day_parting((1, 2, 0), 2, ((0,), (1,), (2,))), True)
        self.same(shows_day_parting((1, 2, 0), 2, ((0, 1), (2,))), False)
        self.same(shows_day_parting((1, 2, 0), 3, ((), (0, 1), (2,))), False)
        self.same(shows_day_parting((1, 2, 0), 1, None), True)
        self.same(shows_day_parting((1, 2, 0), 2, None), False)
        self.same(shows_day_parting((1, 2, 0), 1, ()), False)

    def test_fair_lot(self):
        self.same([fair_lot((-1,), many) for many in (0, 1)], [(1, ()), (0, (0,))])
        self.same(fair_lot(CHAIN, 0), (1, ()))
        self.same(fair_lot(CHAIN, 6), (0, (0, 1, 2, 3, 4, 5)))
        self.same(fair_lot(CHAIN, 1), (1, (5,)))
        self.same(fair_lot(RING, 3)[0], 2)
        self.same([fair_lot(RING, many)[0] for many in range(7)], [1, 2, 2, 2, 3, 6, 0])
        self.same(shows_fair_lot(RING, 3, (2, (1, 3, 5))), True)
        self.same(shows_fair_lot(RING, 3, (2, (1, 2, 3))), False)
        self.same(shows_fair_lot(RING, 3, (4, (1, 2, 3))), False)


class AllDays(Case):
    def test_plan_and_day_sums(self):
        for deputies in few_deputies():
            for days in some_days(len(deputies)):
                with self.subTest(deputies=deputies, days=days):
                    rows = tuple(held_when(deputies, lot) for lot in days)
                    self.same(plan(deputies, days), rows)
                    together = [by for row in rows for by in row]
                    expected = tuple(together.count(one) for one in (*range(len(deputies)), OFFICE))
                    self.same(day_sums(deputies, days), expected)


class AllPartings(Case):
    def test_there_are_as_many_as_there_should_be(self):
        self.same([len(PARTINGS[size]) for size in range(1, 7)], [1, 2, 5, 15, 52, 203])

    def test_partings(self):
        numbers = set()
        for deputies in (*some_deputies(), PAIRS, (1, 2, 0, 4, 5, 3), (1, 2, 0, 0, 1, 2), (1, 2, 3, 0, 0, 2)):
            for most in range(1, 7):
                good = good_partings(deputies, most)
                found = day_parting(deputies, most)
                numbers.add(fewest_days(deputies, most))
                with self.subTest(deputies=deputies, most=most):
                    self.assertIn(repr(found), [repr(parting) for parting in good] or ["None"])
                    self.same(fewest_days(deputies, most), len(good[0]) if good else None)
                    self.assertIs(shows_day_parting(deputies, most, found), True)
        self.assertEqual(numbers, {None, 2, 3, 4})

    def test_shows_day_parting(self):
        for deputies in (*few_deputies()[::6], (1, 0, 0, 0), (1, 2, 0, 0), (1, 0, 3, 2), RING, (1, 2, 0, 4, 5, 3)):
            size = len(deputies)
            for most in (1, 2, 6):
                good = good_partings(deputies, most) or [None]
                others = list(PARTINGS[size])
                for parting in [one for one in good if one][:9]:
                    others += [((), *parting), (*parting, ()), parting[::-1], parting[1:], parting + parting[-1:]]
                    others += [(parting[0][::-1], *parting[1:]), list(parting), (list(parting[0]), *parting[1:])]
                self.shows(shows_day_parting, (deputies, most), good, [one for one in others if one not in good])

    def test_near_values(self):
        for value in near(((0, 1), (2,))):
            expected = repr(value) in ("((0, 1), (2,))", "((0, 2), (1,))", "((0,), (1, 2))")
            self.assertIs(shows_day_parting((1, 2, 0), 6, value), expected, value)


class FairLots(Case):
    def test_fair_lot(self):
        for deputies in some_deputies():
            for many in range(len(deputies) + 1):
                good = [repr(pair) for pair in fair_ones(deputies, many)]
                with self.subTest(deputies=deputies, many=many):
                    self.assertIn(repr(fair_lot(deputies, many)), good)
                    self.assertIs(shows_fair_lot(deputies, many, fair_lot(deputies, many)), True)

    def test_shows_fair_lot(self):
        for deputies in few_deputies()[::4]:
            lots = all_lots(len(deputies))
            for many in range(len(deputies) + 1):
                pairs = [(load, lot) for load in range(7) for lot in lots]
                self.shows(shows_fair_lot, (deputies, many), fair_ones(deputies, many), pairs)

    def test_the_office_counts_for_nothing(self):
        for deputies in ((-1,) * 6, CHAIN):
            self.same(fair_lot(deputies, len(deputies))[0], 0)
            self.same(fair_lot(deputies, len(deputies) - 1)[0], 1)


class Wrong(Case):
    def test_up_to_30_days(self):
        for many in (0, 1, 29, 30):
            self.same(len(plan((1, 0), ((0,),) * many)), many)
            self.same(day_sums((1, 0), ((1,),) * many), (2 * many, 0, 0))
        for days in (((0,),) * 31, ((),) * 40, (None,) * 31, None, [(0,)], "", 0):
            self.fails(BadLots, plan, (1, 0), days, index=None)
            self.fails(BadLots, day_sums, (1, 0), days, index=None)
        for at in (0, 1, 29):
            for lot in (None, (1, 0), (0, 0), (2,), (-1,), (True,), [0], 0, "0", ((0,),)):
                days = ((0, 1),) * at + (lot,) + (None,) * (29 - at)
                self.fails(BadLots, plan, (1, 0), days, index=at)
                self.fails(BadLots, day_sums, (1, 0), days, index=at)

    def test_most(self):
        for deputies in ((-1,), (1, 0), LARGE[-1]):
            for most in (0, -1, 7, 60, True, False, None, "1", (1,), [1]):
                self.fails(BadCount, fewest_days, deputies, most)
                self.fails(BadCount, day_parting, deputies, most)
                self.fails(BadCount, shows_day_parting, deputies, most, None)
            for many in (-1, len(deputies) + 1, 7, True, None, "0", ()):
                self.fails(BadCount, fair_lot, deputies, many)
                self.fails(BadCount, shows_fair_lot, deputies, many, None)


if __name__ == "__main__":
    unittest.main()
