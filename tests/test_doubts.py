"""Chances after what was seen (point 29)."""

import unittest

from firstthere.doubts import deputy_chances, holder_chances
from firstthere.errors import BadLot, BadPerson, BadSights, TooMany
from firstthere.sights import fitting
from tests.support import OFFICE, Case, all_deputies, all_lots, as_ratio, held_when

NOTHING_SEEN = ((), (0, 1, 2, 3))


def seen_of(deputies, lots):
    return tuple((lot, held_when(deputies, lot)) for lot in lots)


def those_that_fit(size, sights):
    return [deputies for deputies in all_deputies(size) if seen_of(deputies, [lot for lot, _ in sights]) == sights]


def shares(size, named):
    if not named:
        return None
    return tuple(as_ratio(sum(one == each for one in named), len(named)) for each in (*range(size), OFFICE))


def some_sights(size):
    """Sights that some deputies fit, and such as none fit."""
    lots = all_lots(size)
    known = all_deputies(size)
    for step, deputies in enumerate(known[::1 + len(known) // 20]):
        for many in (1, 2, 8):
            yield seen_of(deputies, (lots * 8)[step % len(lots):][:many])
        other = known[(step * 5 + 1) % len(known)]
        yield seen_of(deputies, lots[-1:] + lots[1:3]) + seen_of(other, lots[1:4][::-1])
    yield (((), (OFFICE,) * size),)
    yield ((lots[-1], (0,) * size),)


class WorkedOut(Case):
    def test_nothing_seen(self):
        for size in range(1, 5):
            for person in range(size):
                expected = tuple((0, 1) if one == person else (1, size) for one in range(size)) + ((1, size),)
                self.same(deputy_chances(size, (((), NOTHING_SEEN[1][:size]),), person), expected)

    def test_one_person(self):
        self.same(deputy_chances(1, (((0,), (-1,)),), 0), ((0, 1), (1, 1)))
        self.same(holder_chances(1, (((), (0,)),), (), 0), ((1, 1), (0, 1)))
        self.same(holder_chances(1, (((), (0,)),), (0,), 0), ((0, 1), (1, 1)))
        self.same(deputy_chances(1, (((0,), (0,)),), 0), None)
        self.same(holder_chances(1, (((), (-1,)),), (), 0), None)

    def test_deputy_chances(self):
        self.same(deputy_chances(2, (((0,), (1, 1)),), 0), ((0, 1), (1, 1), (0, 1)))
        self.same(deputy_chances(2, (((1,), (0, -1)),), 0), ((0, 1), (1, 2), (1, 2)))
        self.same(deputy_chances(3, (((0, 1), (2, 2, 2)),), 0), ((0, 1), (1, 3), (2, 3), (0, 1)))

    def test_holder_chances(self):
        self.same(holder_chances(2, (((0,), (1, 1)),), (0,), 0), ((0, 1), (1, 1), (0, 1)))
        self.same(holder_chances(2, (((0,), (1, 1)),), (0, 1), 0), ((0, 1), (0, 1), (1, 1)))
        self.same(holder_chances(3, (((), (0, 1, 2)),), (0,), 0), ((0, 1), (1, 3), (1, 3), (1, 3)))
        self.same(holder_chances(3, (((), (0, 1, 2)),), (0, 1), 0), ((0, 1), (0, 1), (4, 9), (5, 9)))

    def test_sights_against_each_other(self):
        sights = (((0,), (1, 1)), ((0,), (-1, 1)))
        self.same([deputy_chances(2, sights, person) for person in (0, 1)], [None, None])
        self.same([holder_chances(2, sights, lot, 1) for lot in ((), (0,), (0, 1))], [None] * 3)


class AllDeputies(Case):
    def test_deputy_chances(self):
        nones = 0
        for size in range(1, 5):
            for sights in some_sights(size):
                found = those_that_fit(size, sights)
                nones += not found
                for person in range(size):
                    with self.subTest(size=size, sights=sights, person=person):
                        expected = shares(size, [deputies[person] for deputies in found])
                        self.same(deputy_chances(size, sights, person), expected)
        self.assertGreater(nones, 20)

    def test_holder_chances(self):
        for size in range(1, 5):
            for at, sights in enumerate(some_sights(size)):
                found = those_that_fit(size, sights)
                for lot in all_lots(size)[::1 if size < 4 else 3]:
                    person = (at + len(lot)) % size
                    with self.subTest(size=size, sights=sights, lot=lot, person=person):
                        expected = shares(size, [held_when(deputies, lot)[person] for deputies in found])
                        self.same(holder_chances(size, sights, lot, person), expected)

    def test_what_was_seen_is_sure(self):
        for deputies in all_deputies(4)[::19]:
            sights = seen_of(deputies, [(0, 2), (1, 3)])
            for lot, held in sights:
                for person in range(4):
                    expected = tuple((1, 1) if one == held[person] else (0, 1) for one in (0, 1, 2, 3, OFFICE))
                    self.same(holder_chances(4, sights, lot, person), expected)


class Wrong(Case):
    def test_too_many_people(self):
        for size in (5, 6):
            sights = (((), tuple(range(size))),)
            self.fails(TooMany, deputy_chances, size, sights, 0, most=4)
            self.fails(TooMany, deputy_chances, size, sights, size - 1, most=4)
            self.fails(TooMany, holder_chances, size, sights, (), 0, most=4)
            self.fails(TooMany, holder_chances, size, sights, tuple(range(size)), size - 1, most=4)
            for person in (size, -1, True, None, "0", (0,)):
                self.fails(BadPerson, deputy_chances, size, sights, person)
                self.fails(BadPerson, holder_chances, size, sights, (0,), person)
            for lot in ((size,), (1, 0), None, [0], "0", 0):
                self.fails(BadLot, holder_chances, size, sights, lot, None)
            for wrong, index in ((None, None), ((), None), (sights * 9, None), (sights + (0,), 1), ((((), ()),), 0)):
                self.fails(BadSights, deputy_chances, size, wrong, None, index=index)
                self.fails(BadSights, holder_chances, size, wrong, None, None, index=index)

    def test_up_to_8_sights(self):
        one = ((0,), (1, 1))
        for many in (1, 8):
            self.same(deputy_chances(2, (one,) * many, 1), ((1, 2), (0, 1), (1, 2)))
        for many in (0, 9):
            self.fails(BadSights, deputy_chances, 2, (one,) * many, 1, index=None)
            self.fails(BadSights, holder_chances, 2, (one,) * many, (), 1, index=None)

    def test_they_are_those_of_fitting(self):
        for sights in some_sights(3):
            self.same(list(fitting(3, sights)), those_that_fit(3, sights))


if __name__ == "__main__":
    unittest.main()
