"""Two hands (point 17)."""

import functools
import unittest

from firstthere.errors import BadLot, BadPerson, IsOut
from firstthere.hands import early_end, late_end, late_moves, wins_duty
from tests.support import LARGE, OFFICE, Case, all_but, all_deputies, all_lots, can_come_to, held_when

CHAIN = (1, 2, 3, 4, 5, -1)
RING = (1, 2, 3, 4, 5, 0)
INTO_A_ROUND = (1, 2, 0, 2, 3, -1)
ALONE = (-1,) * 6


def some_deputies():
    return [deputies for size in range(1, 5) for deputies in all_deputies(size)] + list(LARGE)


def joined(lot, person):
    return tuple(sorted((*lot, person)))


def settled(deputies, at_end, choose):
    """What comes of each lot and each hand to move (True for the first), all plays reckoned from their ends."""
    found = {}
    for lot in reversed(all_lots(len(deputies))):
        there = all_but(len(deputies), *lot)
        for first in (True, False):
            end = at_end(lot)
            if end is None:
                end = choose[first]([found[joined(lot, one), not first] for one in there])
            found[lot, first] = end
    return found


@functools.lru_cache(maxsize=None)
def ends(deputies, person):
    """When it is out, True being the hand that wants it late."""
    def at_end(lot):
        return len(lot) if held_when(deputies, lot)[person] == OFFICE else None
    return settled(deputies, at_end, {True: max, False: min})


@functools.lru_cache(maxsize=None)
def wins(deputies, person, other):
    """Whether the other one comes to hold it, True being the hand that wants it."""
    def at_end(lot):
        held = held_when(deputies, lot)[person]
        return held == other if held in (other, OFFICE) else None
    return settled(deputies, at_end, {True: any, False: all})


class WorkedOut(Case):
    def test_ends(self):
        self.same([late_end((-1,), 0), early_end((-1,), 0)], [1, 1])
        self.same([late_end(CHAIN, 0), early_end(CHAIN, 0)], [6, 6])
        self.same([late_end(RING, 2), early_end(RING, 2)], [6, 6])
        self.same([late_end(ALONE, 4), early_end(ALONE, 4)], [2, 1])
        self.same([late_end(CHAIN, 4), early_end(CHAIN, 4)], [4, 3])
        self.same([late_end((1, -1), 1), early_end((1, -1), 1)], [2, 1])
        self.same([late_end(INTO_A_ROUND, 4), early_end(INTO_A_ROUND, 4)], [6, 6])
        self.same([late_end(INTO_A_ROUND, 1), early_end(INTO_A_ROUND, 1)], [6, 5])

    def test_late_moves(self):
        self.same(late_moves((-1,), (), 0), (0,))
        self.same(late_moves(CHAIN, (), 0), (0, 1, 2, 3, 4, 5))
        self.same(late_moves(CHAIN, (), 4), (0, 1, 2, 3))
        self.same(late_moves(CHAIN, (0, 1, 2), 4), (3,))
        self.same(late_moves(CHAIN, (0, 1, 2, 3), 4), (4, 5))
        self.same(late_moves(CHAIN, (0, 1, 2, 4), 4), (3,))
        self.same(late_moves(ALONE, (1, 2, 3), 5), (0, 4))

    def test_wins_duty(self):
        self.same(wins_duty((-1,), 0, 0), True)
        self.same([wins_duty(CHAIN, 0, other) for other in range(6)], [True, True, False, False, False, False])
        self.same([wins_duty((-1, -1), 0, other) for other in (0, 1)], [True, False])
        self.same([wins_duty((1, 2, 0), 0, other) for other in range(3)], [True, True, False])
        self.same([wins_duty((1, 0, -1), 0, other) for other in range(3)], [True, True, False])


class AllPlays(Case):
    def test_ends(self):
        for deputies in some_deputies():
            for person in range(len(deputies)):
                with self.subTest(deputies=deputies, person=person):
                    self.same(late_end(deputies, person), ends(deputies, person)[(), True])
                    self.same(early_end(deputies, person), ends(deputies, person)[(), False])

    def test_late_moves(self):
        for deputies in some_deputies():
            for person in range(len(deputies)):
                found = ends(deputies, person)
                for gone in all_lots(len(deputies)):
                    with self.subTest(deputies=deputies, gone=gone, person=person):
                        if held_when(deputies, gone)[person] == OFFICE:
                            self.fails(IsOut, late_moves, deputies, gone, person)
                        else:
                            there = all_but(len(deputies), *gone)
                            latest = found[gone, True]
                            expected = tuple(one for one in there if found[joined(gone, one), False] == latest)
                            self.same(late_moves(deputies, gone, person), expected)
                            self.assertGreater(len(expected), 0)

    def test_wins_duty(self):
        answers = []
        for deputies in some_deputies():
            for person in range(len(deputies)):
                for other in range(len(deputies)):
                    expected = wins(deputies, person, other)[(), True]
                    answers.append(expected)
                    with self.subTest(deputies=deputies, person=person, other=other):
                        self.same(wins_duty(deputies, person, other), expected)
        self.assertGreater(answers.count(True), 100)
        self.assertGreater(answers.count(False), 100)

    def test_who_can_never_hold_it(self):
        for deputies in LARGE:
            for person in range(len(deputies)):
                self.same(wins_duty(deputies, person, person), True)
                for other in range(len(deputies)):
                    if not can_come_to(deputies, person, other):
                        self.same(wins_duty(deputies, person, other), False)


class Wrong(Case):
    def test_out_already(self):
        self.fails(IsOut, late_moves, (-1,), (0,), 0)
        self.fails(IsOut, late_moves, CHAIN, (3, 4, 5), 3)
        self.fails(IsOut, late_moves, CHAIN, (0, 1, 2, 3, 4, 5), 0)
        self.fails(IsOut, late_moves, INTO_A_ROUND, (0, 1, 2), 1)
        self.same(late_moves(INTO_A_ROUND, (0, 1, 2), 3), (4, 5))

    def test_other_errors_come_first(self):
        self.fails(BadLot, late_moves, (1, 0), (1, 0), 0)
        self.fails(BadPerson, late_moves, (1, 0), (0, 1), 2)
        self.fails(BadPerson, late_moves, (1, 0), (0, 1), -1)
        self.fails(BadPerson, late_moves, (1, 0), (0, 1), True)

    def test_the_office_where_a_person_is_asked(self):
        for call in (late_end, early_end):
            self.fails(BadPerson, call, (1, 0), -1)
        self.fails(BadPerson, wins_duty, (1, 0), -1, 0)
        self.fails(BadPerson, wins_duty, (1, 0), 0, -1)


if __name__ == "__main__":
    unittest.main()
