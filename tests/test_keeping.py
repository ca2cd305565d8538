"""Keepers (point 9)."""

import unittest

from firstthere.keeping import apart_chains, keeper_count, keepers, safe_count, shows_apart_chains, shows_keepers
from tests.support import OFFICE, Case, all_lots, can_come_to, held_when, some_deputies

CHAIN = (1, 2, 3, 4, 5, -1)
RING = (1, 2, 3, 4, 5, 0)
THREE_ROUNDS = (5, 2, 1, 4, 3, 0)
INTO_A_ROUND = (1, 2, 0, 2, 3, -1)


def keep(deputies, lot):
    """Whether no duty comes to the office, whoever leaves, if all of the lot stay."""
    leaving = [gone for gone in all_lots(len(deputies)) if not set(gone) & set(lot)]
    return all(OFFICE not in held_when(deputies, gone) for gone in leaving)


def least_keeping(deputies):
    lots = [lot for lot in all_lots(len(deputies)) if keep(deputies, lot)]
    return [lot for lot in lots if len(lot) == min(map(len, lots))]


def apart(deputies, lot):
    """Whether nobody can get the duties of two of the lot."""
    people = range(len(deputies))
    return all(sum(can_come_to(deputies, duty, person) for duty in lot) < 2 for person in people)


def all_apart(deputies):
    many = len(least_keeping(deputies)[0])
    return [lot for lot in all_lots(len(deputies)) if len(lot) == many and apart(deputies, lot)]


class WorkedOut(Case):
    def test_keepers(self):
        self.same(keepers((-1,)), (0,))
        self.same(keepers((-1,) * 6), (0, 1, 2, 3, 4, 5))
        self.same(keepers(CHAIN), (5,))
        self.same(keepers(RING), (0,))
        self.same(keepers(THREE_ROUNDS), (0, 1, 3))
        self.same(keepers(INTO_A_ROUND), (0, 5))

    def test_keeper_count(self):
        self.same(keeper_count((-1,)), 1)
        self.same(keeper_count(CHAIN), 1)
        self.same(keeper_count(RING), 6)
        self.same(keeper_count(THREE_ROUNDS), 8)
        self.same(keeper_count(INTO_A_ROUND), 3)

    def test_apart_chains(self):
        self.same(apart_chains((-1,)), (0,))
        self.same(apart_chains((-1,) * 6), (0, 1, 2, 3, 4, 5))
        self.same(len(apart_chains(CHAIN)), 1)
        self.same(len(apart_chains(THREE_ROUNDS)), 3)
        self.same(shows_apart_chains(INTO_A_ROUND, (4, 5)), True)
        self.same(shows_apart_chains(INTO_A_ROUND, (3, 4)), False)
        self.same(shows_apart_chains(INTO_A_ROUND, (4,)), False)
        self.same(shows_apart_chains(CHAIN, (2,)), True)

    def test_shows_keepers(self):
        self.same(shows_keepers(INTO_A_ROUND, (1, 5)), True)
        self.same(shows_keepers(INTO_A_ROUND, (3, 5)), False)
        self.same(shows_keepers(INTO_A_ROUND, (0, 1, 5)), False)
        self.same(shows_keepers(INTO_A_ROUND, (5, 1)), False)

    def test_safe_count(self):
        self.same(safe_count((-1,)), 1)
        self.same(safe_count((-1,) * 6), 1)
        self.same(safe_count((1, 0)), 3)
        self.same(safe_count(CHAIN), 32)
        self.same(safe_count(RING), 63)
        self.same(safe_count(THREE_ROUNDS), 27)


class AllLots(Case):
    def test_keepers(self):
        for deputies in some_deputies():
            found = least_keeping(deputies)
            with self.subTest(deputies=deputies):
                self.same(keepers(deputies), min(found))
                self.same(keeper_count(deputies), len(found))

    def test_apart_chains(self):
        for deputies in some_deputies():
            with self.subTest(deputies=deputies):
                self.assertIn(repr(apart_chains(deputies)), [repr(lot) for lot in all_apart(deputies)])

    def test_safe_count(self):
        for deputies in some_deputies():
            with self.subTest(deputies=deputies):
                safe = [lot for lot in all_lots(len(deputies)) if OFFICE not in held_when(deputies, lot)]
                self.same(safe_count(deputies), len(safe))


class Shows(Case):
    def test_keepers(self):
        for deputies in some_deputies():
            self.shows(shows_keepers, (deputies,), least_keeping(deputies), all_lots(len(deputies)))
            self.assertIs(shows_keepers(deputies, keepers(deputies)), True)

    def test_apart_chains(self):
        for deputies in some_deputies():
            self.shows(shows_apart_chains, (deputies,), all_apart(deputies), all_lots(len(deputies)))
            self.assertIs(shows_apart_chains(deputies, apart_chains(deputies)), True)

    def test_other_kinds(self):
        for call in (shows_keepers, shows_apart_chains):
            for value in ([0], (False,), "0", 0, {0: 0}, ((0,),), (0, 0), None, (), (-1,), (2,), (True,)):
                self.assertIs(call((1, 0), value), False)


if __name__ == "__main__":
    unittest.main()
