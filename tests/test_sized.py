"""Sizes of duties and limits (point 31)."""

import itertools
import unittest

from firstthere.errors import BadLimits, BadLot, BadSizes
from firstthere.sized import can_leave, largest_leave, leave_count, shows_largest_leave, sized_loads
from tests.support import (
    LARGE, OFFICE, Case, all_deputies, all_lots, few_deputies, held_when, loads_when, near, some_deputies)

RING = (1, 2, 3, 4, 5, 0)

SOME_SIZES = (
    (0, 0, 0, 0, 0, 0), (1000, 1000, 1000, 1000, 1000, 1000), (5, 3, 1, 4, 2, 6), (0, 1000, 0, 1000, 7, 0),
)
SOME_LIMITS = (
    (0, 0, 0, 0, 0, 0), (6000, 6000, 6000, 6000, 6000, 6000), (2000, 1000, 3000, 0, 2000, 1000), (5, 9, 3, 8, 7, 6),
    (8, 8, 8, 8, 8, 8), (1000, 1000, 1000, 1000, 1000, 999), (0, 6000, 0, 6000, 0, 6000),
)


def sums_when(deputies, sizes, lot):
    sums = dict.fromkeys((*range(len(deputies)), OFFICE), 0)
    for size, by in zip(sizes, held_when(deputies, lot)):
        sums[by] += size
    return tuple(sums.values())


def may_leave(deputies, sizes, limits, lot):
    """Whether nobody who is there has too much, the duties being all with people."""
    if loads_when(deputies, lot)[-1] > 0:
        return False
    sums = sums_when(deputies, sizes, lot)
    return not any(sums[one] > limits[one] for one in range(len(deputies)) if one not in lot)


def all_leaving(deputies, sizes, limits):
    return [(len(lot), lot) for lot in all_lots(len(deputies)) if may_leave(deputies, sizes, limits, lot)]


def largest(deputies, sizes, limits):
    pairs = all_leaving(deputies, sizes, limits)
    return [pair for pair in pairs if pair[0] == max(pairs)[0]]


def cases():
    for deputies in few_deputies():
        for sizes, limits in itertools.product(SOME_SIZES, SOME_LIMITS):
            yield deputies, sizes[:len(deputies)], limits[:len(deputies)]


class WorkedOut(Case):
    def test_sized_loads(self):
        self.same([sized_loads((-1,), (1000,), lot) for lot in ((), (0,))], [(1000, 0), (0, 1000)])
        self.same(sized_loads((1, 0), (3, 5), (1,)), (8, 0, 0))
        self.same(sized_loads((1, 0), (3, 5), (0, 1)), (0, 0, 8))
        self.same(sized_loads(RING, (1, 20, 300, 4, 50, 600), (0, 2, 3)), (0, 21, 0, 0, 354, 600, 0))
        self.same(sized_loads((-1,) * 6, (1000,) * 6, (0, 1, 2, 3, 4, 5)), (0, 0, 0, 0, 0, 0, 6000))
        self.same(sized_loads((5, 5, 5, 5, 5, -1), (1000,) * 6, (0, 1, 2, 3, 4)), (0, 0, 0, 0, 0, 6000, 0))

    def test_can_leave(self):
        self.same([can_leave((-1,), (0,), (6000,), lot) for lot in ((), (0,))], [True, False])
        self.same([can_leave((-1,), (6,), (limit,), ()) for limit in (5, 6, 7)], [False, True, True])
        self.same([can_leave((1, 0), (2, 3), (0, limit), (0,)) for limit in (4, 5, 6)], [False, True, True])
        self.same(can_leave((1, 0), (0, 0), (0, 0), (0, 1)), False)
        self.same(can_leave((5, 5, 5, 5, 5, -1), (1000,) * 6, (0,) * 5 + (6000,), (0, 1, 2, 3, 4)), True)
        self.same(can_leave((5, 5, 5, 5, 5, -1), (1000,) * 6, (0,) * 5 + (5999,), (0, 1, 2, 3, 4)), False)

    def test_largest_leave(self):
        self.same(largest_leave((-1,), (7,), (7,)), (0, ()))
        self.same(largest_leave((-1,), (7,), (6,)), None)
        self.same(largest_leave((1, 0), (1, 1), (0, 2)), (1, (0,)))
        self.same(largest_leave((1, 0), (1, 1), (0, 1)), None)
        self.same(largest_leave(RING, (1,) * 6, (3,) * 6)[0], 4)
        self.same(largest_leave(RING, (1000,) * 6, (5999,) * 6)[0], 4)
        self.same(largest_leave(RING, (1000,) * 6, (6000,) * 6)[0], 5)
        self.same(largest_leave(RING, (0,) * 6, (0,) * 6)[0], 5)

    def test_shows_largest_leave(self):
        self.same(shows_largest_leave((1, 0), (1, 1), (2, 2), (1, (0,))), True)
        self.same(shows_largest_leave((1, 0), (1, 1), (2, 2), (1, (1,))), True)
        self.same(shows_largest_leave((1, 0), (1, 1), (2, 2), (0, ())), False)
        self.same(shows_largest_leave((1, 0), (1, 1), (2, 2), (2, (0, 1))), False)
        self.same(shows_largest_leave((1, 0), (1, 1), (2, 2), None), False)
        self.same(shows_largest_leave((1, 0), (1, 1), (0, 2), (1, (1,))), False)
        self.same(shows_largest_leave((1, 0), (1, 1), (0, 1), None), True)
        self.same(shows_largest_leave((1, 0), (1, 1), (0, 1), (0, ())), False)

    def test_leave_count(self):
        self.same([leave_count((-1,), (7,), (limit,)) for limit in (6, 7)], [0, 1])
        self.same(leave_count((1, 0), (1, 1), (2, 2)), 3)
        self.same(leave_count(RING, (0,) * 6, (0,) * 6), 63)
        self.same(leave_count((-1,) * 6, (0,) * 6, (6000,) * 6), 1)


class AllLots(Case):
    def test_sized_loads(self):
        for deputies in some_deputies():
            for sizes in SOME_SIZES:
                for lot in all_lots(len(deputies)):
                    expected = sums_when(deputies, sizes[:len(deputies)], lot)
                    with self.subTest(deputies=deputies, sizes=sizes, lot=lot):
                        self.same(sized_loads(deputies, sizes[:len(deputies)], lot), expected)

    def test_sizes_of_one_are_loads(self):
        for deputies in few_deputies():
            for lot in all_lots(len(deputies)):
                self.same(sized_loads(deputies, (1,) * len(deputies), lot), loads_when(deputies, lot))

    def test_can_leave(self):
        for deputies, sizes, limits in cases():
            for lot in all_lots(len(deputies)):
                with self.subTest(deputies=deputies, sizes=sizes, limits=limits, lot=lot):
                    self.same(can_leave(deputies, sizes, limits, lot), may_leave(deputies, sizes, limits, lot))

    def test_largest_leave_and_leave_count(self):
        nones = 0
        for deputies, sizes, limits in cases():
            good = [repr(pair) for pair in largest(deputies, sizes, limits)] or ["None"]
            nones += good == ["None"]
            with self.subTest(deputies=deputies, sizes=sizes, limits=limits):
                self.assertIn(repr(largest_leave(deputies, sizes, limits)), good)
                self.same(leave_count(deputies, sizes, limits), len(all_leaving(deputies, sizes, limits)))
        self.assertGreater(nones, 100)

    def test_shows_largest_leave(self):
        for deputies, sizes, limits in list(cases())[::57]:
            lots = all_lots(len(deputies))
            good = largest(deputies, sizes, limits)
            others = [(len(lot) + more, lot) for lot in lots for more in (-1, 0, 1)]
            others += [(good[0][0] if good else 0, lot) for lot in lots]
            self.shows(shows_largest_leave, (deputies, sizes, limits), good or [None], others)

    def test_each_limit_counts(self):
        for deputies in (*all_deputies(3), *LARGE[7:]):
            size = len(deputies)
            for person in range(size):
                limits = tuple(1 if one == person else 6 for one in range(size))
                for lot in all_lots(size):
                    loads = loads_when(deputies, lot)
                    expected = loads[-1] == 0 and loads[person] <= 1
                    self.same(can_leave(deputies, (1,) * size, limits, lot), expected)

    def test_near_values(self):
        for value in near((1, (0,))):
            expected = repr(value) == "(1, (0,))"
            self.assertIs(shows_largest_leave((1, 0), (1, 1), (0, 2), value), expected, value)


class Wrong(Case):
    def test_sizes_at_both_ends(self):
        for sizes in ((-1, 0), (0, 1001), (0,), (0, 0, 0), (True, 0), (0, False), [0, 0], None, "00", {0: 0, 1: 0}, 0):
            self.fails(BadSizes, sized_loads, (1, 0), sizes, ())
            self.fails(BadSizes, can_leave, (1, 0), sizes, (0, 0), ())
            self.fails(BadSizes, largest_leave, (1, 0), sizes, (0, 0))
            self.fails(BadSizes, shows_largest_leave, (1, 0), sizes, None, None)
            self.fails(BadSizes, leave_count, (1, 0), sizes, (0, 0))

    def test_limits_at_both_ends(self):
        for limits in ((-1, 0), (0, 6001), (0,), (0, 0, 0), (True, 0), (0, False), [0, 0], None, "00", {0: 0, 1: 0}, 0):
            self.fails(BadLimits, can_leave, (1, 0), (0, 0), limits, None)
            self.fails(BadLimits, largest_leave, (1, 0), (0, 0), limits)
            self.fails(BadLimits, shows_largest_leave, (1, 0), (0, 0), limits, None)
            self.fails(BadLimits, leave_count, (1, 0), (0, 0), limits)

    def test_lots(self):
        for lot in ((2,), (1, 0), (0, 0), (-1,), [0], None, "0", 0, (True,)):
            self.fails(BadLot, sized_loads, (1, 0), (0, 0), lot)
            self.fails(BadLot, can_leave, (1, 0), (0, 0), (0, 0), lot)


if __name__ == "__main__":
    unittest.main()
