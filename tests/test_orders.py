"""Told holders, and the whole orders that go so (point 5)."""

import itertools
import unittest

from firstthere.errors import BadNumber, BadOrder
from firstthere.orders import handing_orders, number_in, order_at, orders_with
from tests.support import Case, all_deputies, few_deputies, handed_on, whole_orders, without_repeats


def rows_of(deputies, order):
    """For each person, the holders of its duty one after another."""
    rows = handed_on(deputies, order)
    return tuple(without_repeats([row[person] for row in rows]) for person in range(len(deputies)))


def told_from(deputies):
    """Told holders that some order has, of each lot of people, and some that none has."""
    size = len(deputies)
    found = [()]
    for order in whole_orders(size)[::size ** 3 // 5 + 1]:
        rows = rows_of(deputies, order)
        for many in range(1, min(size, 3) + 1):
            for people in list(itertools.combinations(range(size), many))[::3]:
                found.append(tuple((person, rows[person]) for person in people))
    return found + [((0, (-1,)),), ((0, (0,)),), ((size - 1, (size - 1, -1)),)]


class WorkedOut(Case):
    def test_one_person(self):
        self.same(orders_with((-1,), ()), 1)
        self.same(orders_with((-1,), ((0, (0, -1)),)), 1)
        self.same(orders_with((-1,), ((0, (0,)),)), 0)
        self.same(orders_with((-1,), ((0, (-1,)),)), 0)
        self.same(order_at((-1,), (), 0), (0,))
        self.same(number_in((-1,), ((0, (0, -1)),), (0,)), 0)

    def test_a_chain_of_six(self):
        deputies = (1, 2, 3, 4, 5, -1)
        self.same(orders_with(deputies, ()), 720)
        self.same(orders_with(deputies, ((0, (0, 1, 2, 3, 4, 5, -1)),)), 1)
        self.same(orders_with(deputies, ((0, (0, -1)),)), 120)
        self.same(orders_with(deputies, ((0, (0, -1)), (5, (5, -1)))), 120)
        self.same(orders_with(deputies, ((3, (3, -1)),)), 240)
        self.same(order_at(deputies, ((3, (3, -1)),), 0), (0, 1, 2, 4, 5, 3))
        self.same(order_at(deputies, ((3, (3, -1)),), 239), (5, 4, 3, 2, 1, 0))
        self.same(number_in(deputies, ((3, (3, -1)),), (0, 1, 2, 4, 5, 3)), 0)
        self.same(number_in(deputies, ((3, (3, -1)),), (0, 1, 2, 5, 4, 3)), 1)
        self.same(number_in(deputies, ((3, (3, -1)),), (5, 4, 3, 2, 1, 0)), 239)

    def test_told_holders_that_no_order_has(self):
        deputies = (1, 0, 1)
        for held in ((-1,), (0,), (0, 1), (1, 0, -1), (1, -1), (0, 2, -1), (2, 0, -1)):
            with self.subTest(held=held):
                self.same(orders_with(deputies, ((0, held),)), 0)
                self.fails(BadNumber, order_at, deputies, ((0, held),), 0)
                self.fails(BadOrder, number_in, deputies, ((0, held),), (0, 1, 2))

    def test_each_fits_but_not_together(self):
        told = ((0, (0, 1, -1)), (1, (1, 0, -1)))
        self.same([orders_with((1, 0), told[:1]), orders_with((1, 0), told[1:]), orders_with((1, 0), told)], [1, 1, 0])

    def test_handing_orders(self):
        self.same(handing_orders((-1,)), (0, 1))
        self.same(handing_orders((1, 0)), (0, 0, 0, 2))
        self.same(handing_orders((-1, -1, -1)), (0, 0, 0, 6))
        self.same(handing_orders((-1,) * 6), (0, 0, 0, 0, 0, 0, 720))
        found = handing_orders((1, 2, 3, 4, 5, -1))
        self.same([len(found), found[:6], found[6], found[21]], [22, (0,) * 6, 1, 1])


class Counted(Case):
    def test_orders_as_told(self):
        for deputies in few_deputies():
            rows = {order: rows_of(deputies, order) for order in whole_orders(len(deputies))}
            for told in told_from(deputies)[::1 if len(deputies) < 6 else 9]:
                fit = [order for order in rows if all(rows[order][person] == held for person, held in told)]
                with self.subTest(deputies=deputies, told=told):
                    self.same(orders_with(deputies, told), len(fit))
                    for number in {0, len(fit) // 3, len(fit) - 1} if fit else ():
                        self.same(order_at(deputies, told, number), fit[number])
                        self.same(number_in(deputies, told, fit[number]), number)

    def test_all_numbers_of_four_people(self):
        for deputies in all_deputies(4)[::51]:
            for number, order in enumerate(whole_orders(4)):
                self.same(order_at(deputies, (), number), order)
                self.same(number_in(deputies, (), order), number)

    def test_handing_orders(self):
        for deputies in few_deputies():
            sums = [sum(len(row) - 1 for row in rows_of(deputies, order)) for order in whole_orders(len(deputies))]
            with self.subTest(deputies=deputies):
                self.same(handing_orders(deputies), tuple(sums.count(many) for many in range(max(sums) + 1)))


class Wrong(Case):
    def test_numbers_at_both_ends(self):
        told = ((3, (3, -1)),)
        self.fails(BadNumber, order_at, (1, 2, 3, 4, 5, -1), told, -1)
        self.fails(BadNumber, order_at, (1, 2, 3, 4, 5, -1), told, 240)
        self.fails(BadNumber, order_at, (1, 2, 3, 4, 5, -1), (), 720)
        self.fails(BadNumber, order_at, (-1,), (), 1)
        for number in (True, False):
            self.fails(BadNumber, order_at, (1, 0), (), number)

    def test_orders_that_are_none_of_them(self):
        told = ((0, (0, 1, -1)),)
        self.same(number_in((1, -1), told, (0, 1)), 0)
        for order in ((1, 0), (0,), (), (0, True), (False, 1), [0, 1], "01", None, 0, {0: 1}):
            self.fails(BadOrder, number_in, (1, -1), told, order)


if __name__ == "__main__":
    unittest.main()
