"""Dates of leaving (point 26)."""

import itertools
import unittest

from firstthere.dates import busiest_date, duty_days, order_by, out_date, spans
from firstthere.errors import BadDates, BadPerson
from tests.support import OFFICE, Case, all_deputies, few_deputies, handed_on, held_when

CHAIN = (1, 2, 3, 4, 5, -1)

SOME_DATES = (
    (0, 0, 0, 0, 0, 0), (1000, 1000, 1000, 1000, 1000, 1000), (0, 1000, 0, 1000, 7, 0), (5, 3, 1, 4, 2, 6),
    (1, 2, 3, 4, 5, 6), (6, 5, 4, 3, 2, 1), (2, 0, 2, 1, 0, 2), (30, 30, 10, 30, 10, 20), (7, 7, 7, 7, 7, 7),
    (1, 0, 0, 999, 1000, 1),
)


def some_dates(size):
    return sorted({dates[:size] for dates in SOME_DATES})


def one_by_one(dates):
    """The order, taking again and again the first one of those with the earliest date."""
    left = dict(enumerate(dates))
    order = []
    while left:
        earliest = [person for person in sorted(left) if left[person] == min(left.values())]
        order.append(earliest[0])
        del left[earliest[0]]
    return tuple(order)


def gone_by(dates, date):
    return tuple(person for person, one in enumerate(dates) if one <= date)


def stretches(deputies, dates):
    """Between dates on which somebody leaves, (from, to, holders): who has left by then is known from the dates."""
    days = sorted({0, *dates})
    return [(since, until, held_when(deputies, gone_by(dates, since))) for since, until in zip(days, days[1:])]


def spans_when(deputies, dates, person):
    found = []
    for since, until, held in stretches(deputies, dates):
        if found and found[-1][0] == held[person]:
            found[-1] = (held[person], found[-1][1], until)
        else:
            found.append((held[person], since, until))
    return tuple(span for span in found if span[0] != OFFICE)


def out_when(deputies, dates, person):
    return min(date for date in dates if held_when(deputies, gone_by(dates, date))[person] == OFFICE)


def busiest_when(deputies, dates):
    order = one_by_one(dates)
    days = [0] + [dates[person] for person in order]
    rows = handed_on(deputies, order)
    found = [(max(held.count(one) for one in range(len(dates))), -date) for held, date in zip(rows, days)]
    return (max(found)[0], -max(found)[1])


def cases():
    for deputies in few_deputies():
        for dates in some_dates(len(deputies)):
            yield deputies, dates


class WorkedOut(Case):
    def test_order_by(self):
        self.same(order_by((0,)), (0,))
        self.same(order_by((1000, 0)), (1, 0))
        self.same(order_by((5, 5, 5, 5, 5, 5)), (0, 1, 2, 3, 4, 5))
        self.same(order_by((9, 2, 9, 2, 0, 1000)), (4, 1, 3, 0, 2, 5))
        self.same(order_by((10, 9, 8, 100, 11, 1)), (5, 2, 1, 0, 4, 3))

    def test_spans(self):
        self.same([spans((-1,), (date,), 0) for date in (0, 1, 1000)], [(), ((0, 0, 1),), ((0, 0, 1000),)])
        self.same(spans((1, 0), (3, 8), 0), ((0, 0, 3), (1, 3, 8)))
        self.same(spans((1, 0), (3, 8), 1), ((1, 0, 8),))
        self.same(spans((1, 0), (3, 3), 0), ((0, 0, 3),))
        self.same(spans((1, 0), (0, 3), 0), ((1, 0, 3),))
        self.same(spans((1, 0), (0, 0), 0), ())
        self.same(spans(CHAIN, (5, 3, 7, 7, 9, 9), 0), ((0, 0, 5), (2, 5, 7), (4, 7, 9)))
        self.same(spans(CHAIN, (0, 2, 2, 2, 2, 2), 0), ((1, 0, 2),))

    def test_out_date(self):
        self.same([out_date((-1,), (date,), 0) for date in (0, 1, 1000)], [0, 1, 1000])
        self.same([out_date((1, -1, 1), (3, 2, 9), person) for person in range(3)], [3, 2, 9])
        self.same([out_date((1, 0, -1), (3, 2, 9), person) for person in range(3)], [3, 3, 9])
        self.same(out_date((1, 0, -1), (0, 0, 9), 1), 0)

    def test_duty_days(self):
        self.same([duty_days((-1,), (date,)) for date in (0, 1000)], [(0,), (1000,)])
        self.same(duty_days((1, 0), (3, 8)), (3, 13))
        self.same(duty_days((1, 0), (0, 0)), (0, 0))
        self.same(duty_days((5, 5, 5, 5, 5, -1), (0, 0, 0, 0, 0, 1000)), (0, 0, 0, 0, 0, 6000))

    def test_busiest_date(self):
        self.same(busiest_date((-1,), (0,)), (1, 0))
        self.same(busiest_date((-1, -1), (3, 5)), (1, 0))
        self.same(busiest_date((1, 0), (3, 5)), (2, 3))
        self.same(busiest_date((1, 0), (5, 5)), (2, 5))
        self.same(busiest_date((1, 0), (0, 0)), (2, 0))
        self.same(busiest_date((1, 0, 3, 2), (8, 9, 4, 9)), (2, 4))
        self.same(busiest_date(CHAIN, (1, 2, 3, 4, 5, 1000)), (6, 5))


class AllDates(Case):
    def test_order_by(self):
        for size in range(1, 5):
            for dates in itertools.product((0, 1, 5, 1000), repeat=size):
                self.same(order_by(dates), one_by_one(dates))
        for size in (5, 6):
            for dates in (*some_dates(size), *list(itertools.permutations((0, 3, 3, 8, 10, 999), size))[::7]):
                self.same(order_by(dates), one_by_one(dates))

    def test_spans_and_out_dates(self):
        for deputies, dates in cases():
            for person in range(len(deputies)):
                with self.subTest(deputies=deputies, dates=dates, person=person):
                    self.same(spans(deputies, dates, person), spans_when(deputies, dates, person))
                    self.same(out_date(deputies, dates, person), out_when(deputies, dates, person))

    def test_duty_days_and_busiest_dates(self):
        for deputies, dates in cases():
            rows = stretches(deputies, dates)
            sums = [sum(held.count(one) * (until - since) for since, until, held in rows) for one in range(len(dates))]
            with self.subTest(deputies=deputies, dates=dates):
                self.same(duty_days(deputies, dates), tuple(sums))
                self.same(busiest_date(deputies, dates), busiest_when(deputies, dates))

    def test_all_small_dates(self):
        for deputies in all_deputies(3):
            for dates in itertools.product(range(3), repeat=3):
                with self.subTest(deputies=deputies, dates=dates):
                    for person in range(3):
                        self.same(spans(deputies, dates, person), spans_when(deputies, dates, person))
                        self.same(out_date(deputies, dates, person), out_when(deputies, dates, person))
                    self.same(busiest_date(deputies, dates), busiest_when(deputies, dates))

    def test_day_by_day(self):
        for deputies, dates in list(cases())[::3]:
            if max(dates) <= 30:
                for person in range(len(deputies)):
                    held = [held_when(deputies, gone_by(dates, day))[person] for day in range(max(dates))]
                    told = [by for by, since, until in spans(deputies, dates, person) for _ in range(since, until)]
                    with self.subTest(deputies=deputies, dates=dates, person=person):
                        self.same(told, [by for by in held if by != OFFICE])

    def test_moments_on_one_date_count_each(self):
        # Behind the first two leavings on date 4, person 2 holds three duties; behind the third it has left.
        self.same(busiest_date((2, 2, -1), (4, 4, 4)), (3, 4))
        self.same(busiest_date((2, 2, -1), (4, 4, 3)), (1, 0))


class Wrong(Case):
    def test_dates_at_both_ends(self):
        for dates in ((-1, 0), (0, 1001), (0,), (0, 0, 0), (True, 0), (0, False), [0, 0], None, "00", {0: 0, 1: 0}, 0):
            self.fails(BadDates, spans, (1, 0), dates, 0)
            self.fails(BadDates, out_date, (1, 0), dates, 0)
            self.fails(BadDates, duty_days, (1, 0), dates)
            self.fails(BadDates, busiest_date, (1, 0), dates)
        for dates in ((), (0,) * 7, (-1,), (1001,), (0, 1, True), (0, "1"), (0, None), [0], 0, None, "0", {0: 0}):
            self.fails(BadDates, order_by, dates)

    def test_people(self):
        for person in (2, -1, True, None, "0", (0,), [0]):
            self.fails(BadPerson, spans, (1, 0), (0, 0), person)
            self.fails(BadPerson, out_date, (1, 0), (0, 0), person)
            self.fails(BadDates, spans, (1, 0), (0,), person)


if __name__ == "__main__":
    unittest.main()
