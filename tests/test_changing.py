"""How few deputies must be changed (point 13)."""

import functools
import itertools
import unittest

from firstthere.changing import fewest_changes, shows_fewest_changes
from firstthere.errors import BadWanted
from tests.support import OFFICE, Case, all_deputies, all_lots, held_when, near


@functools.lru_cache(maxsize=None)
def rows_when(size, gone):
    return [(deputies, held_when(deputies, gone)) for deputies in all_deputies(size)]


def with_wanted(size, gone, wanted):
    """All deputies with whom the wanted holders hold."""
    return [deputies for deputies, held in rows_when(size, gone) if all(held[person] == by for person, by in wanted)]


def all_fewest(deputies, gone, wanted):
    """All pairs of the fewest changes and deputies that have them."""
    known = [(sum(map(int.__ne__, deputies, others)), others)
             for others in with_wanted(len(deputies), gone, wanted)]
    fewest = min(known, default=(0,))[0]
    return [pair for pair in known if pair[0] == fewest]


def all_wanted(size):
    """All wanted holders of a size, those of few people first."""
    lots = all_lots(size)
    return [tuple(zip(lot, by)) for lot in lots for by in itertools.product(range(OFFICE, size), repeat=len(lot))]


def cases():
    """All of sizes 1 and 2, and many of 3 and 4."""
    for size, step, few in ((1, 1, 1), (2, 1, 1), (3, 2, 11), (4, 15, 131)):
        wanted = all_wanted(size)
        for at, (deputies, gone) in enumerate(itertools.product(all_deputies(size)[::step], all_lots(size))):
            for one in wanted[at % few::few]:
                yield deputies, gone, one


class WorkedOut(Case):
    def test_nothing_wanted(self):
        for size in range(1, 5):
            for deputies in all_deputies(size)[::19]:
                for gone in all_lots(size):
                    self.same(fewest_changes(deputies, gone, ()), (0, deputies))

    def test_as_it_is(self):
        for deputies in all_deputies(4)[::19]:
            for gone in all_lots(4):
                wanted = tuple(enumerate(held_when(deputies, gone)))
                self.same(fewest_changes(deputies, gone, wanted), (0, deputies))

    def test_what_nobody_can_have(self):
        self.same(fewest_changes((-1,), (), ((0, -1),)), None)
        self.same(fewest_changes((-1,), (0,), ((0, 0),)), None)
        self.same(fewest_changes((1, -1), (1,), ((0, 1),)), None)
        self.same(fewest_changes((1, 2, 3, 0), (1,), ((0, 0), (1, 1))), None)
        self.same(fewest_changes((1, 2, 3, 0), (0, 1, 2, 3), ((0, 0),)), None)
        self.same(fewest_changes((1, 2, 3, 0), (0, 1), ((0, -1), (1, 0))), None)

    def test_changes(self):
        self.same(fewest_changes((-1, -1, -1, -1), (0, 1, 2), ((0, 3), (1, 3), (2, 3)))[0], 3)
        self.same(fewest_changes((1, 2, -1, -1), (0, 1, 2), ((0, 3), (1, 3), (2, 3))), (1, (1, 2, 3, -1)))
        self.same(fewest_changes((1, 2, 3, -1), (0, 2), ((0, -1), (1, 1), (2, 3))), (1, (-1, 2, 3, -1)))
        self.same(fewest_changes((1, 2, 3, -1), (0, 1, 2), ((0, -1), (1, 3)))[0], 1)
        self.same(fewest_changes((1, 0, -1), (0, 1, 2), ((0, -1), (1, -1), (2, -1))), (0, (1, 0, -1)))
        self.same(fewest_changes((-1, -1), (0,), ((0, -1),)), (0, (-1, -1)))
        self.same(fewest_changes((1, 0), (0,), ((0, -1),)), (1, (-1, 0)))

    def test_shows(self):
        self.same(shows_fewest_changes((1, 2, 3, -1), (0, 1, 2), ((0, -1),), (1, (1, 2, 0, -1))), True)
        self.same(shows_fewest_changes((1, 2, 3, -1), (0, 1, 2), ((0, -1),), (1, (1, 2, 1, -1))), True)
        self.same(shows_fewest_changes((1, 2, 3, -1), (0, 1, 2), ((0, -1),), (1, (1, 2, 3, -1))), False)
        self.same(shows_fewest_changes((1, 2, 3, -1), (0, 1, 2), ((0, -1),), (2, (1, 2, 0, 0))), False)
        self.same(shows_fewest_changes((1, 2, 3, -1), (0, 1, 2), ((0, -1),), (1, (1, 2, 0, 0))), False)
        self.same(shows_fewest_changes((1, 2, 3, -1), (0, 1, 2), ((0, -1),), None), False)
        self.same(shows_fewest_changes((1, 2, 3, -1), (0,), ((0, 0),), None), True)
        self.same(shows_fewest_changes((1, 2, 3, -1), (0,), ((0, 0),), (0, (1, 2, 3, -1))), False)


class AllDeputies(Case):
    def test_fewest_changes(self):
        changes = set()
        for deputies, gone, wanted in cases():
            good = all_fewest(deputies, gone, wanted)
            found = fewest_changes(deputies, gone, wanted)
            changes.add(found and found[0])
            with self.subTest(deputies=deputies, gone=gone, wanted=wanted):
                self.assertIn(repr(found), [repr(pair) for pair in good] or ["None"])
                self.assertIs(shows_fewest_changes(deputies, gone, wanted, found), True)
        self.assertLessEqual({None, 0, 1, 2}, changes)

    def test_shows(self):
        for deputies, gone, wanted in list(cases())[::31]:
            good = all_fewest(deputies, gone, wanted) or [None]
            size = len(deputies)
            others = [(many, one) for one in all_deputies(size)[::1 + size ** size // 30] for many in range(5)]
            texts = {repr(pair) for pair in good}
            for value in (*good, *others, *near(good[0]), *near(good[-1])):
                with self.subTest(deputies=deputies, gone=gone, wanted=wanted, value=value):
                    self.assertIs(shows_fewest_changes(deputies, gone, wanted, value), repr(value) in texts)

    def test_all_kinds_of_values(self):
        for gone, wanted in (((0,), ((0, 1),)), ((), ((0, 1),)), ((0, 1), ()), ((), ())):
            good = all_fewest((-1, -1), gone, wanted) or [None]
            self.shows(shows_fewest_changes, ((-1, -1), gone, wanted), good)
        for value in ((True, (1, -1)), (1, (True, -1)), [1, (1, -1)], (1, [1, -1]), (1, (1,)), (1, (1, -1, -1)), (1,)):
            self.assertIs(shows_fewest_changes((-1, -1), (0,), ((0, 1),), value), False)


class Wrong(Case):
    def test_people_that_are_not_ascending(self):
        for wanted, index in ((((1, 0), (0, 0)), 1), (((0, 0), (0, 0)), 1), (((0, 1), (1, 1), (1, 0)), 2)):
            self.fails(BadWanted, fewest_changes, (1, 0), (), wanted, index=index)
            self.fails(BadWanted, shows_fewest_changes, (1, 0), (), wanted, None, index=index)

    def test_who_may_be_wanted(self):
        self.same(fewest_changes((1, 0), (0, 1), ((0, -1), (1, -1))), (0, (1, 0)))
        for pair in ((-1, 0), (2, 0), (0, 2), (0, -2), (True, 0), (0, True), (0,), (0, 0, 0), [0, 0], 0, None, "00"):
            self.fails(BadWanted, fewest_changes, (1, 0), (), (pair,), index=0)
            self.fails(BadWanted, fewest_changes, (1, 0), (), ((0, 0), pair), index=1)
            self.fails(BadWanted, shows_fewest_changes, (1, 0), (), ((0, 0), pair, None), None, index=1)


if __name__ == "__main__":
    unittest.main()
