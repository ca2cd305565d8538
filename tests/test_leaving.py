"""Leaving one after another (point 4)."""

import unittest

from firstthere.deputies import chain
from firstthere.errors import BadLot, BadPerson, NotThere
from firstthere.leaving import handing_count, handings, in_time, leaving
from tests.support import (
    LARGE, OFFICE, Case, all_lots, all_orders, few_deputies, handed_on, some_deputies, without_repeats)


def orders_of(deputies):
    """All orders of few people, some of many."""
    orders = all_orders(len(deputies))
    return orders if len(deputies) < 5 else orders[::41] + orders[-1:]


def records(deputies, order, person):
    """Those of the chain who leave later than all ahead of them, up to one who is there, or the office."""
    found = []
    latest = -1
    for one in chain(deputies, person):
        if one not in order:
            return (*found, one)
        if order.index(one) > latest:
            found.append(one)
            latest = order.index(one)
    return (*found, OFFICE)


class WorkedOut(Case):
    def test_in_time(self):
        self.same(in_time((-1,), ()), ((0,),))
        self.same(in_time((-1,), (0,)), ((0,), (-1,)))
        self.same(in_time((1, 0), (1, 0)), ((0, 1), (0, 0), (-1, -1)))
        self.same(in_time((1, 2, 0, 0), (0, 2)), ((0, 1, 2, 3), (1, 1, 2, 3), (1, 1, 1, 3)))

    def test_handings(self):
        self.same(handings((-1,), (), 0), (0,))
        self.same(handings((-1,), (0,), 0), (0, -1))
        self.same(handings((1, 2, 3, 4, 5, -1), (0, 1, 2, 3, 4, 5), 0), (0, 1, 2, 3, 4, 5, -1))
        self.same(handings((1, 2, 3, 4, 5, -1), (5, 4, 3, 2, 1, 0), 0), (0, -1))
        self.same(handings((1, 2, 3, 4, 5, -1), (1, 0, 3), 0), (0, 2))
        self.same(handings((1, 2, 3, 4, 5, -1), (1, 3), 0), (0,))
        self.same(handings((1, 2, 0, 2, 3, -1), (4, 2, 3, 0, 1), 4), (4, 3, 0, 1, -1))

    def test_handing_count(self):
        self.same(handing_count((-1,), ()), 0)
        self.same(handing_count((-1,), (0,)), 1)
        self.same(handing_count((1, 2, 3, 4, 5, -1), (0, 1, 2, 3, 4, 5)), 21)
        self.same(handing_count((1, 2, 3, 4, 5, -1), (5, 4, 3, 2, 1, 0)), 6)
        self.same(handing_count((1, 0), (0,)), 1)

    def test_leaving(self):
        self.same(leaving((-1,), (), 0), ((0, -1),))
        self.same(leaving((1, -1, 0), (), 1), ((1, -1),))
        self.same(leaving((1, -1, 0), (1,), 0), ((0, -1),))
        self.same(leaving((1, 0), (0,), 1), ((0, -1), (1, -1)))
        self.same(leaving((5, 5, 5, 5, 5, -1), (1, 3), 5), ((1, -1), (3, -1), (5, -1)))
        self.same(leaving((1, 2, 0, 2, 3, -1), (2, 3), 0), ((0, 1), (2, 1), (3, 1)))


class HandedOn(Case):
    def test_in_time(self):
        for deputies in some_deputies():
            for order in orders_of(deputies):
                with self.subTest(deputies=deputies, order=order):
                    self.same(in_time(deputies, order), handed_on(deputies, order))

    def test_handings_are_records(self):
        for deputies in few_deputies():
            for order in orders_of(deputies):
                rows = handed_on(deputies, order)
                for person in range(len(deputies)):
                    with self.subTest(deputies=deputies, order=order, person=person):
                        found = handings(deputies, order, person)
                        self.same(found, without_repeats([row[person] for row in rows]))
                        self.same(found, records(deputies, order, person))

    def test_handing_count(self):
        for deputies in few_deputies():
            for order in orders_of(deputies):
                rows = handed_on(deputies, order)
                changed = sum(one != other for row, after in zip(rows, rows[1:]) for one, other in zip(row, after))
                with self.subTest(deputies=deputies, order=order):
                    self.same(handing_count(deputies, order), changed)

    def test_leaving(self):
        for deputies in some_deputies():
            for lot in all_lots(len(deputies)):
                for person in set(range(len(deputies))) - set(lot):
                    row, after = handed_on(deputies, (*lot, person))[-2:]
                    expected = tuple((duty, after[duty]) for duty in range(len(row)) if row[duty] == person)
                    with self.subTest(deputies=deputies, lot=lot, person=person):
                        self.same(leaving(deputies, lot, person), expected)


class NotThereAnyMore(Case):
    def test_gone_already(self):
        for deputies in LARGE:
            for lot in all_lots(len(deputies)):
                for person in lot:
                    self.fails(NotThere, leaving, deputies, lot, person)

    def test_no_person_is_no_person(self):
        for person in (-1, 2, True, False, None, "0", (0,)):
            self.fails(BadPerson, leaving, (1, 0), (0, 1), person)

    def test_the_lot_first(self):
        self.fails(BadLot, leaving, (1, 0), (1, 0), 0)
        self.fails(BadLot, leaving, (1, 0), (0, 0), 0)


if __name__ == "__main__":
    unittest.main()
