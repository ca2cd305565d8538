"""When a duty comes to whom (point 16)."""

import itertools
import math
import unittest

from firstthere.errors import BadCount, BadPerson, BadPlaces
from firstthere.moments import holding_time, mean_out, moment, out_chances, record_orders
from tests.support import (
    LARGE, OFFICE, Case, all_lots, all_orders, as_mean, as_ratio, few_deputies, handed_on, rows_in_time, some_deputies,
    whole_orders)

CHAIN = (1, 2, 3, 4, 5, -1)
RING = (1, 2, 3, 4, 5, 0)
ALONE = (-1,) * 6


def column(rows, person):
    return [held[person] for held in rows]


def outs(deputies, person):
    """For each whole order, behind how many leavings the duty comes to the office."""
    return [column(rows, person).index(OFFICE) for _, rows in rows_in_time(deputies)]


class WorkedOut(Case):
    def test_moment(self):
        self.same([moment((-1,), (), 0, 0), moment((-1,), (), 0, -1), moment((-1,), (0,), 0, -1)], [0, None, 1])
        self.same([moment(CHAIN, (1, 0, 2, 3), 0, other) for other in range(-1, 6)], [None, 0, None, 2, 3, 4, None])
        self.same([moment(CHAIN, (0, 1, 2, 3, 4, 5), 0, other) for other in range(-1, 6)], [6, 0, 1, 2, 3, 4, 5])
        self.same([moment(RING, (3, 1, 0), 3, other) for other in range(-1, 6)], [None, None, None, None, 0, 1, None])
        self.same(moment((1, 0, -1), (2, 0, 1), 0, 2), None)

    def test_out_chances(self):
        self.same(out_chances((-1,), 0), ((0, 1), (1, 1)))
        self.same(out_chances(ALONE, 3), ((0, 1),) + ((1, 6),) * 6)
        self.same(out_chances(CHAIN, 0), ((0, 1),) * 6 + ((1, 1),))
        self.same(out_chances(CHAIN, 4), ((0, 1), (0, 1), (1, 15), (2, 15), (1, 5), (4, 15), (1, 3)))

    def test_mean_out(self):
        self.same([mean_out((-1,), 0), mean_out((1, 0), 0), mean_out((1, -1), 1)], [(1, 1), (2, 1), (3, 2)])
        self.same([mean_out(CHAIN, person) for person in range(6)],
                  [(6, 1), (35, 6), (28, 5), (21, 4), (14, 3), (7, 2)])

    def test_holding_time(self):
        self.same([holding_time((1, -1), 0, other) for other in (0, 1)], [(3, 2), (1, 2)])
        self.same([holding_time((1, -1), 1, other) for other in (0, 1)], [(0, 1), (3, 2)])
        self.same(holding_time((-1,), 0, 0), (1, 1))
        self.same([holding_time(ALONE, 2, 2), holding_time(ALONE, 2, 3)], [(7, 2), (0, 1)])
        self.same([holding_time(CHAIN, 0, other) for other in range(6)],
                  [(7, 2), (7, 6), (7, 12), (7, 20), (7, 30), (1, 6)])

    def test_record_orders(self):
        self.same([record_orders(1, ()), record_orders(1, (0,))], [0, 1])
        self.same([record_orders(2, places) for places in ((), (0,), (1,), (0, 1))], [0, 1, 0, 1])
        self.same([record_orders(3, places) for places in ((0,), (0, 1), (0, 2), (0, 1, 2), (1, 2))], [2, 2, 1, 1, 0])
        self.same(record_orders(60, (0,)), math.factorial(59))
        self.same(record_orders(60, tuple(range(60))), 1)
        self.same(record_orders(60, tuple(range(1, 60))), 0)
        self.same(record_orders(60, tuple(range(59))), 59)
        self.same(record_orders(60, ()), 0)


class AllOrders(Case):
    def test_moment(self):
        for deputies in few_deputies():
            size = len(deputies)
            for order in all_orders(size)[::1 if size < 4 else 41]:
                rows = handed_on(deputies, order)
                for person in range(size):
                    held = column(rows, person)
                    for other in range(OFFICE, size):
                        with self.subTest(deputies=deputies, order=order, person=person, other=other):
                            expected = held.index(other) if other in held else None
                            self.same(moment(deputies, order, person, other), expected)

    def test_outs(self):
        for deputies in some_deputies():
            size = len(deputies)
            for person in range(size):
                behind = outs(deputies, person)
                with self.subTest(deputies=deputies, person=person):
                    expected = tuple(as_ratio(behind.count(many), len(behind)) for many in range(size + 1))
                    self.same(out_chances(deputies, person), expected)
                    self.same(mean_out(deputies, person), as_mean(behind))

    def test_holding_time(self):
        for deputies in few_deputies():
            for person in range(len(deputies)):
                rows = [column(row[:-1], person) for _, row in rows_in_time(deputies)]
                for other in range(len(deputies)):
                    with self.subTest(deputies=deputies, person=person, other=other):
                        expected = as_mean([held.count(other) for held in rows])
                        self.same(holding_time(deputies, person, other), expected)

    def test_record_orders(self):
        for length in range(1, 7):
            found = []
            for order in whole_orders(length):
                found.append(tuple(at for at in range(length) if order[at] == max(order[:at + 1])))
            for places in all_lots(length):
                self.same(record_orders(length, places), found.count(places))

    def test_record_orders_of_many(self):
        for length in range(2, 61):
            for step in range(1, length):
                places = tuple(range(0, length, step))
                without = math.prod(place for place in range(length) if place not in places)
                self.same(record_orders(length, places), without)
            # With the last place and without it: the last one comes behind any number of the others, or of all.
            ahead = tuple(range(0, length - 1, 3))
            self.same(record_orders(length, (*ahead, length - 1)), record_orders(length - 1, ahead))
            self.same(record_orders(length, ahead), record_orders(length - 1, ahead) * (length - 1))

    def test_all_record_orders_add_up(self):
        for length in range(1, 10):
            lots = [lot for many in range(length + 1) for lot in itertools.combinations(range(length), many)]
            self.same(sum(record_orders(length, lot) for lot in lots), math.factorial(length))


class Sums(Case):
    def test_chances_add_up(self):
        for deputies in LARGE:
            for person in range(len(deputies)):
                chances = out_chances(deputies, person)
                self.same(len(chances), len(deputies) + 1)
                self.same(as_ratio(sum(720 * top // bottom for top, bottom in chances), 720), (1, 1))

    def test_holding_times_add_up_to_the_time_until_it_is_out(self):
        for deputies in LARGE:
            for person in range(len(deputies)):
                times = [holding_time(deputies, person, other) for other in range(len(deputies))]
                self.same(as_ratio(sum(720 * top // bottom for top, bottom in times), 720), mean_out(deputies, person))


class Wrong(Case):
    def test_places(self):
        for places in ((-1,), (3,), (0, 3), (0, 0), (1, 0), (0, 2, 1), (True,), (0, True)):
            self.fails(BadPlaces, record_orders, 3, places)
        for places in (("0",), (None,), ((0,),), [0], {0: 1}, 0, None, "0", True):
            self.fails(BadPlaces, record_orders, 3, places)
        self.fails(BadPlaces, record_orders, 60, (0, 60))
        self.fails(BadPlaces, record_orders, 1, (0, 1))
        for length in (0, 61, -1, True, None, "3", (3,)):
            self.fails(BadCount, record_orders, length, (0,))
            self.fails(BadCount, record_orders, length, None)

    def test_the_office_where_a_person_is_asked(self):
        self.fails(BadPerson, moment, (1, 0), (), -1, 0)
        self.fails(BadPerson, out_chances, (1, 0), -1)
        self.fails(BadPerson, mean_out, (1, 0), -1)
        self.fails(BadPerson, holding_time, (1, 0), -1, 0)
        self.fails(BadPerson, holding_time, (1, 0), 0, -1)


if __name__ == "__main__":
    unittest.main()
