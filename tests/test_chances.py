"""By chance, all orders alike (point 6)."""

import collections
import unittest

from firstthere.chances import ever_chance, handing_chances, hold_chance, mean_handings, mean_loads, together_chance
from firstthere.errors import BadCount, BadPerson
from tests.support import (
    LARGE, OFFICE, Case, all_lots, as_ratio, few_deputies, held_when, loads_when, rows_in_time, some_deputies,
    without_repeats)

CHAIN = (1, 2, 3, 4, 5, -1)
RING = (1, 2, 3, 4, 5, 0)
INTO_A_ROUND = (1, 2, 0, 2, 3, -1)


def everyone(deputies):
    return range(len(deputies))


def each_holder(deputies):
    return (*everyone(deputies), OFFICE)


def lots_by_number(deputies):
    """For each number of people, the lots of so many."""
    lots = all_lots(len(deputies))
    return [[lot for lot in lots if len(lot) == many] for many in range(len(deputies) + 1)]


class WorkedOut(Case):
    def test_ever_chance(self):
        self.same([ever_chance((-1,), 0, 0), ever_chance((-1,), 0, -1)], [(1, 1), (1, 1)])
        self.same([ever_chance(CHAIN, 0, other) for other in range(6)], [(1, place) for place in range(1, 7)])
        self.same([ever_chance(CHAIN, 5, other) for other in range(6)], [(0, 1)] * 5 + [(1, 1)])
        self.same([ever_chance(RING, 4, other) for other in (4, 5, 0, 3)], [(1, 1), (1, 2), (1, 3), (1, 6)])
        self.same([ever_chance(INTO_A_ROUND, 4, other) for other in (1, 5, -1)], [(1, 5), (0, 1), (1, 1)])
        self.same([ever_chance(RING, 0, -1), ever_chance((-1, -1), 1, -1)], [(1, 1), (1, 1)])

    def test_handing_chances(self):
        self.same(handing_chances((-1,), 0), ((0, 1), (1, 1)))
        self.same(handing_chances((1, 0), 1), ((0, 1), (1, 2), (1, 2)))
        self.same(handing_chances(CHAIN, 2), ((0, 1), (1, 4), (11, 24), (1, 4), (1, 24)))
        self.same(
            handing_chances(CHAIN, 0),
            ((0, 1), (1, 6), (137, 360), (5, 16), (17, 144), (1, 48), (1, 720)))
        self.same(handing_chances(CHAIN, 5), ((0, 1), (1, 1)))

    def test_mean_handings(self):
        self.same(mean_handings((-1,)), (1, 1))
        self.same(mean_handings((-1,) * 6), (6, 1))
        self.same(mean_handings((1, 0)), (3, 1))
        self.same(mean_handings((1, 0, 1)), (29, 6))
        self.same(mean_handings(RING), (147, 10))
        self.same(mean_handings(CHAIN), (223, 20))

    def test_hold_chance(self):
        self.same([hold_chance((-1,), many, 0, 0) for many in (0, 1)], [(1, 1), (0, 1)])
        self.same([hold_chance((-1,), many, 0, -1) for many in (0, 1)], [(0, 1), (1, 1)])
        self.same([hold_chance(CHAIN, many, 0, 0) for many in range(7)],
                  [(1, 1), (5, 6), (2, 3), (1, 2), (1, 3), (1, 6), (0, 1)])
        self.same([hold_chance(CHAIN, many, 0, 2) for many in range(7)],
                  [(0, 1), (0, 1), (1, 15), (3, 20), (1, 5), (1, 6), (0, 1)])
        self.same([hold_chance(CHAIN, many, 4, -1) for many in range(7)],
                  [(0, 1), (0, 1), (1, 15), (1, 5), (2, 5), (2, 3), (1, 1)])
        self.same(hold_chance(CHAIN, 3, 4, 0), (0, 1))

    def test_mean_loads(self):
        self.same(mean_loads((-1,), 0), ((1, 1), (0, 1)))
        self.same(mean_loads((-1,), 1), ((0, 1), (1, 1)))
        self.same(mean_loads((1, 0), 1), ((1, 1), (1, 1), (0, 1)))
        self.same(mean_loads((2, 2, -1), 1), ((2, 3), (2, 3), (4, 3), (1, 3)))
        self.same(mean_loads((2, 2, -1), 3), ((0, 1), (0, 1), (0, 1), (3, 1)))

    def test_together_chance(self):
        self.same(together_chance((-1,), 0, 0, 0), (1, 1))
        self.same(together_chance((-1, -1), 1, 0, 1), (0, 1))
        self.same(together_chance((-1, -1), 2, 0, 1), (1, 1))
        self.same(together_chance((-1, -1, -1), 2, 0, 1), (1, 3))
        self.same(together_chance((2, 2, -1), 1, 0, 1), (0, 1))
        self.same(together_chance((2, 2, -1), 2, 0, 1), (1, 3))
        self.same([together_chance(RING, many, 0, 1) for many in range(7)],
                  [(0, 1), (1, 6), (1, 3), (1, 2), (2, 3), (1, 1), (1, 1)])


class AllWholeOrders(Case):
    def test_ever_chance(self):
        for deputies in some_deputies():
            rows = rows_in_time(deputies)
            for person in everyone(deputies):
                ever = collections.Counter(one for _, held in rows for one in {row[person] for row in held})
                for other in each_holder(deputies):
                    with self.subTest(deputies=deputies, person=person, other=other):
                        self.same(ever_chance(deputies, person, other), as_ratio(ever[other], len(rows)))

    def test_handings(self):
        for deputies in some_deputies():
            rows = rows_in_time(deputies)
            total = 0
            for person in everyone(deputies):
                counts = [len(without_repeats([row[person] for row in held])) - 1 for _, held in rows]
                total += sum(counts)
                # As long as the chain: everybody on it may be met, one after another.
                expected = tuple(as_ratio(counts.count(many), len(rows)) for many in range(max(counts) + 1))
                with self.subTest(deputies=deputies, person=person):
                    self.same(handing_chances(deputies, person), expected)
            with self.subTest(deputies=deputies):
                self.same(mean_handings(deputies), as_ratio(total, len(rows)))

    def test_hold_chance(self):
        for deputies in few_deputies():
            rows = rows_in_time(deputies)
            for many in range(len(deputies) + 1):
                for person in everyone(deputies):
                    times = collections.Counter(held[many][person] for _, held in rows)
                    for other in each_holder(deputies):
                        with self.subTest(deputies=deputies, many=many, person=person, other=other):
                            self.same(hold_chance(deputies, many, person, other), as_ratio(times[other], len(rows)))


class AllLots(Case):
    def test_mean_loads(self):
        for deputies in some_deputies():
            for many, lots in enumerate(lots_by_number(deputies)):
                rows = [loads_when(deputies, lot) for lot in lots]
                with self.subTest(deputies=deputies, many=many):
                    self.same(mean_loads(deputies, many), tuple(as_ratio(sum(row), len(lots)) for row in zip(*rows)))

    def test_together_chance(self):
        for deputies in few_deputies():
            for many, lots in enumerate(lots_by_number(deputies)):
                rows = [held_when(deputies, lot) for lot in lots]
                for one in everyone(deputies):
                    for other in everyone(deputies):
                        times = sum(row[one] == row[other] for row in rows)
                        with self.subTest(deputies=deputies, many=many, one=one, other=other):
                            self.same(together_chance(deputies, many, one, other), as_ratio(times, len(rows)))

    def test_a_person_and_itself(self):
        for deputies in LARGE:
            for person in everyone(deputies):
                self.same(ever_chance(deputies, person, person), (1, 1))
                for many in range(len(deputies) + 1):
                    self.same(together_chance(deputies, many, person, person), (1, 1))

    def test_nobody_and_everybody_gone(self):
        for deputies in some_deputies():
            size = len(deputies)
            for person in everyone(deputies):
                self.same(hold_chance(deputies, 0, person, person), (1, 1))
                self.same(hold_chance(deputies, size, person, person), (0, 1))
                self.same(hold_chance(deputies, 0, person, OFFICE), (0, 1))
                self.same(hold_chance(deputies, size, person, OFFICE), (1, 1))
                self.same(ever_chance(deputies, person, OFFICE), (1, 1))
            self.same(mean_loads(deputies, 0), ((1, 1),) * size + ((0, 1),))
            self.same(mean_loads(deputies, size), ((0, 1),) * size + ((size, 1),))


class Wrong(Case):
    def test_counts_just_outside(self):
        for deputies in ((-1,), (1, 0), CHAIN):
            for many in (-1, len(deputies) + 1, True, False, None, "0", (0,)):
                self.fails(BadCount, hold_chance, deputies, many, 0, 0)
                self.fails(BadCount, mean_loads, deputies, many)
                self.fails(BadCount, together_chance, deputies, many, 0, 0)

    def test_the_office_where_a_person_is_asked(self):
        self.fails(BadPerson, ever_chance, (1, 0), -1, 0)
        self.fails(BadPerson, handing_chances, (1, 0), -1)
        self.fails(BadPerson, hold_chance, (1, 0), 0, -1, 0)
        self.fails(BadPerson, together_chance, (1, 0), 0, -1, 0)
        self.fails(BadPerson, together_chance, (1, 0), 0, 0, -1)


if __name__ == "__main__":
    unittest.main()
