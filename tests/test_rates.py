"""Mean times by rates (point 27)."""

import fractions
import functools
import itertools
import unittest

from firstthere.errors import BadLot, BadPerson, BadWeights
from firstthere.rates import load_times, mean_hold_by, mean_out_by, mean_stay
from tests.support import (
    LARGE, ODD_VALUES, OFFICE, Case, all_deputies, all_lots, as_ratio, can_come_to, few_deputies, held_when)

CHAIN = (1, 2, 3, 4, 5, -1)

SOME_RATES = (
    (1, 1, 1, 1, 1, 1), (60, 60, 60, 60, 60, 60), (1, 60, 1, 60, 7, 1), (60, 1, 7, 12, 59, 31), (2, 3, 5, 7, 11, 13),
)


def some_rates(size):
    return sorted({rates[:size] for rates in SOME_RATES})


def in_lowest(number):
    return as_ratio(fractions.Fraction(number).numerator, fractions.Fraction(number).denominator)


@functools.lru_cache(maxsize=None)
def stays(rates, lot):
    """The mean time until all of the lot have left, by who of them leaves next."""
    together = sum(rates[one] for one in lot)
    if not lot:
        return fractions.Fraction(0)
    rest = [rates[one] * stays(rates, tuple(other for other in lot if other != one)) for one in lot]
    return (1 + sum(rest)) / fractions.Fraction(together)


@functools.lru_cache(maxsize=None)
def times_of_lots(rates):
    """For each lot, the mean time for which just these have left: by who leaves next, and how long that takes."""
    chances = {lot: fractions.Fraction(0) for lot in all_lots(len(rates))}
    chances[()] = fractions.Fraction(1)
    times = {}
    for lot in all_lots(len(rates))[:-1]:
        there = [one for one in range(len(rates)) if one not in lot]
        together = sum(rates[one] for one in there)
        times[lot] = chances[lot] / together
        for one in there:
            chances[tuple(sorted((*lot, one)))] += chances[lot] * rates[one] / together
    return times


def time_of(deputies, rates, person, other):
    times = times_of_lots(rates)
    return sum((times[lot] for lot in times if held_when(deputies, lot)[person] == other), fractions.Fraction(0))


def cases():
    for deputies in few_deputies():
        for rates in some_rates(len(deputies)):
            yield deputies, rates


class WorkedOut(Case):
    def test_mean_stay(self):
        self.same([mean_stay((1,), (0,)), mean_stay((60,), (0,)), mean_stay((1, 60), (1,))], [(1, 1), (1, 60), (1, 60)])
        self.same(mean_stay((1, 1), (0, 1)), (3, 2))
        self.same(mean_stay((60, 60), (0, 1)), (1, 40))
        self.same(mean_stay((1, 60), (0, 1)), (3661, 3660))
        self.same(mean_stay((1, 1, 1), (0, 1, 2)), (11, 6))
        self.same(mean_stay((2,) * 6, (0, 1, 2, 3, 4, 5)), (49, 40))
        self.same(mean_stay((1, 2, 3), (0, 1, 2)), (73, 60))
        self.same(mean_stay((1, 2, 3), (0, 2)), (13, 12))

    def test_mean_out_by(self):
        self.same(mean_out_by((-1,), (60,), 0), (1, 60))
        self.same([mean_out_by((1, 0, -1), (1, 1, 4), person) for person in range(3)], [(3, 2), (3, 2), (1, 4)])
        self.same(mean_out_by(CHAIN, (2,) * 6, 0), (49, 40))
        self.same(mean_out_by(CHAIN, (2,) * 6, 5), (1, 2))

    def test_mean_hold_by(self):
        self.same([mean_hold_by((1, -1), (1, 2), 0, other) for other in (0, 1)], [(1, 1), (1, 6)])
        self.same([mean_hold_by((1, -1), (1, 2), 1, other) for other in (0, 1)], [(0, 1), (1, 2)])
        self.same([mean_hold_by((1, 0), (60, 60), 1, other) for other in (0, 1)], [(1, 120), (1, 60)])
        self.same([mean_hold_by(CHAIN, (1,) * 6, 0, other) for other in range(6)], [(1, one) for one in range(1, 7)])

    def test_load_times(self):
        self.same(load_times((-1,), (60,)), ((1, 60),))
        self.same(load_times((1, 0), (1, 1)), ((3, 2), (3, 2)))
        self.same(load_times((-1, -1, 0), (1, 2, 3)), ((7, 4), (1, 2), (1, 3)))


class AllLots(Case):
    def test_mean_stay(self):
        rows = [*itertools.product((1, 2, 60), repeat=3), *itertools.product((1, 7, 60), repeat=2), (1,), (59,), (60,)]
        for rates in (*rows, *some_rates(4), *some_rates(5), *some_rates(6)):
            for lot in all_lots(len(rates))[1:]:
                with self.subTest(rates=rates, lot=lot):
                    self.same(mean_stay(rates, lot), in_lowest(stays(rates, lot)))

    def test_mean_out_by(self):
        for deputies, rates in cases():
            for person in range(len(deputies)):
                spent = [time_of(deputies, rates, person, other) for other in range(len(deputies))]
                with self.subTest(deputies=deputies, rates=rates, person=person):
                    self.same(mean_out_by(deputies, rates, person), in_lowest(sum(spent)))

    def test_mean_hold_by(self):
        for deputies, rates in cases():
            for person, other in itertools.product(range(len(deputies)), repeat=2):
                with self.subTest(deputies=deputies, rates=rates, person=person, other=other):
                    expected = in_lowest(time_of(deputies, rates, person, other))
                    self.same(mean_hold_by(deputies, rates, person, other), expected)

    def test_load_times(self):
        for deputies, rates in cases():
            people = range(len(deputies))
            expected = [sum(time_of(deputies, rates, duty, one) for duty in people) for one in people]
            with self.subTest(deputies=deputies, rates=rates):
                self.same(load_times(deputies, rates), tuple(map(in_lowest, expected)))

    def test_a_person_itself(self):
        for deputies, rates in cases():
            for person in range(len(deputies)):
                self.same(mean_hold_by(deputies, rates, person, person), (1, rates[person]))

    def test_nothing_for_those_to_whom_a_duty_never_comes(self):
        for deputies in (*all_deputies(3), *LARGE):
            rates = SOME_RATES[-1][:len(deputies)]
            for person, other in itertools.product(range(len(deputies)), repeat=2):
                never = mean_hold_by(deputies, rates, person, other) == (0, 1)
                self.assertEqual(never, not can_come_to(deputies, person, other))


class Wrong(Case):
    def test_nobody(self):
        for rates in ((1,), (60, 1), (2,) * 6):
            self.fails(BadLot, mean_stay, rates, ())
        self.fails(BadWeights, mean_stay, (0,), ())

    def test_rates_at_both_ends(self):
        for rates in ((0, 1), (1, 61), (-1, 1), (1,), (1, 1, 1), (True, 1), [1, 1], None, "11", {0: 1, 1: 1}, 1):
            self.fails(BadWeights, mean_out_by, (1, 0), rates, 0)
            self.fails(BadWeights, mean_hold_by, (1, 0), rates, 0, 1)
            self.fails(BadWeights, load_times, (1, 0), rates)
        for rates in ((), (0,), (61,), (1, 0), (1,) * 7, (True,), [1], 1, None, "1", {0: 1}):
            self.fails(BadWeights, mean_stay, rates, (0,))

    def test_people(self):
        for person in (*ODD_VALUES, 2, OFFICE, -2):
            self.fails(BadPerson, mean_out_by, (1, 0), (1, 1), person)
            self.fails(BadPerson, mean_hold_by, (1, 0), (1, 1), person, 0)
            self.fails(BadPerson, mean_hold_by, (1, 0), (1, 1), 0, person)


if __name__ == "__main__":
    unittest.main()
