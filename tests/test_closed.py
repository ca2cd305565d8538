"""Closed lots, unlike deputies, and deputies beside others (point 23)."""

import itertools
import unittest

from firstthere.closed import beside, closed_lots, closure, unlike_lots
from firstthere.errors import BadDeputies, BadLot, TooMany
from tests.support import (
    LARGE, ODD_VALUES, Case, all_deputies, all_lots, few_deputies, held_when, some_deputies)

CHAIN = (1, 2, 3, 4, 5, -1)
THREE_ROUNDS = (5, 2, 1, 4, 3, 0)


def is_closed(deputies, lot):
    """Whether no deputy of one of the lot is outside."""
    return all(deputies[person] == -1 or deputies[person] in lot for person in lot)


def closed_ones(deputies):
    return tuple(sorted(lot for lot in all_lots(len(deputies)) if is_closed(deputies, lot)))


class WorkedOut(Case):
    def test_closed_lots(self):
        self.same(closed_lots((-1,)), ((), (0,)))
        self.same(closed_lots((-1, -1)), ((), (0,), (0, 1), (1,)))
        self.same(closed_lots((1, 0)), ((), (0, 1)))
        self.same(closed_lots(CHAIN), ((), (0, 1, 2, 3, 4, 5), (1, 2, 3, 4, 5), (2, 3, 4, 5), (3, 4, 5), (4, 5), (5,)))
        self.same(len(closed_lots((-1,) * 6)), 64)
        self.same(len(closed_lots(THREE_ROUNDS)), 8)

    def test_closure(self):
        self.same([closure(CHAIN, lot) for lot in ((), (5,), (3,), (3, 5))], [(), (5,), (3, 4, 5), (3, 4, 5)])
        self.same([closure(THREE_ROUNDS, lot) for lot in ((0,), (1, 3))], [(0, 5), (1, 2, 3, 4)])
        self.same(closure((1, 2, 0, 2), (3,)), (0, 1, 2, 3))
        self.same(closure((1, 2, 0, 2), (2,)), (0, 1, 2))

    def test_unlike_lots(self):
        self.same(unlike_lots((-1,), (-1,)), ())
        self.same(unlike_lots((1, 0), (1, 0)), ())
        self.same(unlike_lots((1, 0), (-1, 0)), ((0,),))
        self.same(unlike_lots((1, 0), (-1, -1)), ((0,), (1,)))
        self.same(unlike_lots((1, 2, -1), (2, 2, -1)), ((0,), (0, 2)))
        self.same(unlike_lots((1, 2, 0), (2, 0, 1)), ((0,), (1,), (2,)))

    def test_beside(self):
        self.same(beside((-1,), (-1,)), (-1, -1))
        self.same(beside((1, 0), (-1, 0)), (1, 0, -1, 2))
        self.same(beside((-1, 0), (1, 0)), (-1, 0, 3, 2))
        self.same(beside((1, 2, 0), (1, 2, -1)), (1, 2, 0, 4, 5, -1))
        self.same(beside((-1,), (4, 3, 1, 0, 2)), (-1, 5, 4, 2, 1, 3))


class AllLots(Case):
    def test_closed_lots(self):
        for deputies in some_deputies():
            with self.subTest(deputies=deputies):
                self.same(closed_lots(deputies), closed_ones(deputies))

    def test_nobody_and_everybody(self):
        for deputies in some_deputies():
            everybody = tuple(range(len(deputies)))
            self.assertIn((), closed_lots(deputies))
            self.assertIn(everybody, closed_lots(deputies))
            self.same([closure(deputies, ()), closure(deputies, everybody)], [(), everybody])

    def test_closure(self):
        for deputies in some_deputies():
            found = closed_ones(deputies)
            for lot in all_lots(len(deputies)):
                around = [one for one in found if set(lot) <= set(one)]
                with self.subTest(deputies=deputies, lot=lot):
                    self.same(closure(deputies, lot), min(around, key=len))

    def test_unlike_lots(self):
        pairs = [pair for size in (1, 2, 3) for pair in itertools.product(all_deputies(size), repeat=2)]
        pairs += list(itertools.product(all_deputies(4)[::23], all_deputies(4)[::17]))
        pairs += [pair for pair in itertools.product(LARGE, repeat=2) if len(pair[0]) == len(pair[1])]
        for one, other in pairs:
            lots = [lot for lot in all_lots(len(one)) if held_when(one, lot) != held_when(other, lot)]
            with self.subTest(one=one, other=other):
                self.same(unlike_lots(one, other), tuple(sorted(lots)))
                self.same(unlike_lots(one, other) == (), one == other)

    def test_beside(self):
        pairs = [pair for pair in itertools.product(few_deputies()[::3], repeat=2) if sum(map(len, pair)) <= 6]
        self.assertEqual({sum(map(len, pair)) for pair in pairs}, {2, 3, 4, 5, 6})
        for one, other in pairs:
            more = len(one)
            both = beside(one, other)
            with self.subTest(one=one, other=other):
                for first, second in itertools.product(all_lots(more)[::2], all_lots(len(other))[::3]):
                    behind = tuple(-1 if by == -1 else by + more for by in held_when(other, second))
                    together = first + tuple(person + more for person in second)
                    self.same(held_when(both, together), held_when(one, first) + behind)
                self.same(len(both), more + len(other))
                self.same(both[:more], one)


class Wrong(Case):
    def test_the_second_of_another_size(self):
        for size in range(1, 7):
            for other in range(1, 7):
                if other != size:
                    self.fails(BadDeputies, unlike_lots, (-1,) * size, (-1,) * other)
                else:
                    self.same(unlike_lots((-1,) * size, (-1,) * other), ())
        for value in ODD_VALUES + ((0, -1), (2, -1), (True, -1), [1, 0], (1, -1, "0"), 0):
            self.fails(BadDeputies, unlike_lots, (1, 0), value)
            self.fails(BadDeputies, unlike_lots, value, (1, 0))
            self.fails(BadDeputies, unlike_lots, value, value)

    def test_lots(self):
        for lot in ((2,), (1, 0), (0, 0), (-1,), [0], None, "0", 0, (True,)):
            self.fails(BadLot, closure, (1, 0), lot)

    def test_up_to_6_people_together(self):
        for one in range(1, 7):
            for other in range(1, 7):
                if one + other > 6:
                    self.fails(TooMany, beside, (-1,) * one, (-1,) * other, most=6)
                else:
                    self.same(beside((-1,) * one, (-1,) * other), (-1,) * (one + other))

    def test_too_many_comes_last(self):
        for value in ODD_VALUES + ((), 0, (0,), (-1,) * 7, (1, 1), [1, 0]):
            self.fails(BadDeputies, beside, value, (-1,) * 6)
            self.fails(BadDeputies, beside, (-1,) * 6, value)


if __name__ == "__main__":
    unittest.main()
