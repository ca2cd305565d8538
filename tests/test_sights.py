"""What was seen (point 10)."""

import itertools
import unittest

from firstthere.errors import BadSights
from firstthere.sights import first_against, fits, fitting, fitting_loads, next_seen, sure_deputies
from tests.support import (
    LARGE, OFFICE, Case, all_deputies, all_lots, few_deputies, held_when, loads_when)


def so_with(deputies, sights):
    return all(held_when(deputies, gone) == held for gone, held in sights)


def all_so(size, sights):
    return tuple(sorted(deputies for deputies in all_deputies(size) if so_with(deputies, sights)))


def seen_of(deputies, lots):
    return tuple((lot, held_when(deputies, lot)) for lot in lots)


def some_sights(size):
    """Sights that some deputies fit, and ones that hold for no deputies or go against one another."""
    lots = all_lots(size)
    known = all_deputies(size)
    for step, deputies in enumerate(known[::1 + size ** size // 30]):
        for many in (1, 2, 3, 8):
            yield seen_of(deputies, (lots * 8)[step % len(lots):][:many])
        other = known[(step * 5 + 1) % len(known)]
        yield seen_of(deputies, lots[-1:] + lots[1:3]) + seen_of(other, lots[1:4][::-1])
    yield (((), (OFFICE,) * size),)
    yield ((lots[-1], (0,) * size),)
    yield (((), tuple(range(size))), ((), tuple(range(size))))


def all_sights():
    return [(size, sights) for size in range(1, 5) for sights in some_sights(size)]


class WorkedOut(Case):
    def test_fitting(self):
        self.same(fitting(1, (((), (0,)),)), ((-1,),))
        self.same(fitting(1, (((0,), (-1,)),)), ((-1,),))
        self.same(fitting(1, (((0,), (0,)),)), ())
        self.same(fitting(2, (((), (0, 1)),)), ((-1, -1), (-1, 0), (1, -1), (1, 0)))
        self.same(fitting(2, (((0,), (1, 1)), ((1,), (0, 0)))), ((1, 0),))
        self.same(fitting(3, (((0, 1), (2, 2, 2)), ((0,), (1, 1, 2)))), ((1, 2, -1), (1, 2, 0), (1, 2, 1)))
        self.same(len(fitting(4, (((0, 1, 2, 3), (-1, -1, -1, -1)),))), 256)

    def test_fits(self):
        self.same(fits((-1,), (((0,), (-1,)),)), True)
        self.same(fits((-1,), (((0,), (0,)),)), False)
        self.same(fits((1, 2, 0, 2, 3, -1), (((2, 3), (0, 1, 0, 0, 4, 5)),)), True)
        self.same(fits((1, 2, 0, 2, 3, -1), (((2, 3), (0, 1, 0, 0, 4, 5)), ((5,), (0, 1, 2, 3, 4, 5)))), False)
        self.same(fits((1, 2, 0, 2, 3, -1), (((2, 3), (0, 1, 0, 0, 4, 5)),) * 8), True)

    def test_sure_deputies(self):
        self.same(sure_deputies(1, (((), (0,)),)), (-1,))
        self.same(sure_deputies(1, (((), (-1,)),)), (None,))
        self.same(sure_deputies(3, (((0, 1), (2, 2, 2)), ((0,), (1, 1, 2)))), (1, 2, None))
        self.same(sure_deputies(4, (((), (0, 1, 2, 3)),)), (None,) * 4)
        self.same(sure_deputies(4, (((), (0, 1, 2, 2)),)), (None,) * 4)

    def test_next_seen(self):
        self.same(next_seen(3, (((0, 1), (2, 2, 2)), ((0,), (1, 1, 2))), (2,)), ((0, 1, -1), (0, 1, 0), (0, 1, 1)))
        self.same(next_seen(3, (((0, 1), (2, 2, 2)), ((0,), (1, 1, 2))), (1, 2)), ((0, -1, -1), (0, 0, 0)))
        self.same(next_seen(2, (((0,), (0, 1)),), ()), ())
        self.same(next_seen(2, (((), (0, 1)),), (0, 1)), ((-1, -1),))

    def test_first_against(self):
        self.same(first_against(1, (((0,), (-1,)),)), None)
        self.same(first_against(1, (((0,), (0,)),)), 1)
        self.same(first_against(2, (((0,), (1, 1)),) * 7 + (((0,), (-1, 1)),)), 8)
        self.same(first_against(2, (((0,), (1, 1)),) * 8), None)
        self.same(first_against(2, (((0,), (1, 1)), ((0,), (-1, 1)), ((0,), (0, 0)))), 2)

    def test_fitting_loads(self):
        self.same(fitting_loads(1, (((0,), (0, 1)),)), ((-1,),))
        self.same(fitting_loads(1, (((0,), (1, 0)),)), ())
        self.same(fitting_loads(2, (((0,), (0, 2, 0)),)), ((1, -1), (1, 0)))
        self.same(fitting_loads(3, (((0, 1), (0, 0, 3, 0)), ((2,), (1, 1, 0, 1)))),
                  ((1, 2, -1), (2, 0, -1), (2, 2, -1)))
        self.same(fitting_loads(2, (((0,), (0, 2, 0)), ((1,), (2, 0, 0)))), ((1, 0),))
        self.same(fitting_loads(2, (((0,), (2, 2, 2)),)), ())


class AllDeputies(Case):
    def test_there_are_sights_of_all_sorts(self):
        numbers = [len(all_so(size, sights)) for size, sights in all_sights()]
        self.assertTrue({0, 1, 2, 4, 16, 256} <= set(numbers))
        self.assertEqual({len(sights) for _, sights in all_sights()} >= {1, 2, 3, 6, 8}, True)

    def test_fitting(self):
        for size, sights in all_sights():
            with self.subTest(size=size, sights=sights):
                self.same(fitting(size, sights), all_so(size, sights))

    def test_sure_deputies(self):
        for size, sights in all_sights():
            found = all_so(size, sights)
            named = [{deputies[person] for deputies in found} for person in range(size)]
            with self.subTest(size=size, sights=sights):
                expected = tuple(min(each) if len(each) == 1 else None for each in named)
                self.same(sure_deputies(size, sights), expected)

    def test_next_seen(self):
        for size, sights in all_sights():
            for gone in all_lots(size):
                found = {held_when(deputies, gone) for deputies in all_so(size, sights)}
                with self.subTest(size=size, sights=sights, gone=gone):
                    self.same(next_seen(size, sights, gone), tuple(sorted(found)))

    def test_first_against(self):
        for size, sights in all_sights():
            against = [many for many in range(1, len(sights) + 1) if not all_so(size, sights[:many])]
            with self.subTest(size=size, sights=sights):
                self.same(first_against(size, sights), against[0] if against else None)

    def test_all_sights_of_two_people(self):
        for lot in all_lots(2):
            for held in itertools.product((OFFICE, 0, 1), repeat=2):
                sights = ((lot, held),)
                self.same(fitting(2, sights), all_so(2, sights))
                self.same(first_against(2, sights), None if all_so(2, sights) else 1)

    def test_fitting_loads(self):
        for size in range(1, 5):
            known = sorted(all_deputies(size))
            lots = all_lots(size)
            for step, deputies in enumerate(known[::1 + size ** size // 20]):
                for many in (1, 2, 8):
                    few = (lots * 8)[step % len(lots):][:many]
                    sights = tuple((lot, loads_when(deputies, lot)) for lot in few)
                    expected = [one for one in known if all(loads_when(one, lot) == seen for lot, seen in sights)]
                    with self.subTest(size=size, sights=sights):
                        self.same(fitting_loads(size, sights), tuple(expected))

    def test_fitting_loads_of_all_loads_of_two_people(self):
        for lot in all_lots(2):
            for seen in itertools.product((0, 1, 2), repeat=3):
                expected = [one for one in sorted(all_deputies(2)) if loads_when(one, lot) == seen]
                self.same(fitting_loads(2, ((lot, seen),)), tuple(expected))


class Fits(Case):
    def test_what_is_so(self):
        for deputies in few_deputies():
            lots = all_lots(len(deputies))
            for start in range(0, len(lots), 5):
                self.same(fits(deputies, seen_of(deputies, lots[start:start + 8])), True)

    def test_one_holder_changed(self):
        for deputies in LARGE:
            for lot in all_lots(len(deputies))[::3]:
                held = held_when(deputies, lot)
                for at, one in enumerate(held):
                    changed = (*held[:at], OFFICE if one != OFFICE else 0, *held[at + 1:])
                    with self.subTest(deputies=deputies, lot=lot, held=changed):
                        self.same(fits(deputies, ((lot, changed),)), False)
                        self.same(fits(deputies, ((lot, held), (lot, changed))), False)
                        self.same(fits(deputies, ((lot, changed), (lot, held))), False)

    def test_as_fitting_for_few_people(self):
        for size, sights in all_sights()[::3]:
            found = fitting(size, sights)
            for deputies in all_deputies(size)[::7]:
                self.same(fits(deputies, sights), deputies in found)


class Wrong(Case):
    def test_from_1_to_8_sights(self):
        for many in range(1, 9):
            self.same(fits((1, -1), (((0,), (1, 1)),) * many), True)
            self.same(fitting(2, (((0,), (1, 1)),) * many), ((1, -1), (1, 0)))
            self.same(fitting_loads(2, (((0,), (0, 2, 0)),) * many), ((1, -1), (1, 0)))
        for many in (0, 9, 10):
            self.fails(BadSights, fits, (1, -1), (((0,), (1, 1)),) * many, index=None)
            self.fails(BadSights, fitting, 2, (((0,), (1, 1)),) * many, index=None)
            self.fails(BadSights, fitting_loads, 2, (((0,), (0, 2, 0)),) * many, index=None)

    def test_the_first_bad_one(self):
        good = ((0,), (1, 1))
        for at in range(8):
            sights = (good,) * at + (None,) + (((0,), (1, 2)),) * (7 - at)
            for call in (fitting, sure_deputies, first_against):
                self.fails(BadSights, call, 2, sights, index=at)
            self.fails(BadSights, fits, (1, 0), sights, index=at)
            self.fails(BadSights, next_seen, 2, sights, (), index=at)

    def test_loads_at_both_ends(self):
        for size in range(1, 5):
            for load in (0, size):
                self.same(fitting_loads(size, (((), (load,) * (size + 1)),)), ())
            for load in (-1, size + 1, True, None):
                for at in range(size + 1):
                    seen = (0,) * at + (load,) + (0,) * (size - at)
                    self.fails(BadSights, fitting_loads, size, (((), seen),), index=0)
            self.fails(BadSights, fitting_loads, size, (((), (0,) * size),), index=0)
            self.fails(BadSights, fitting_loads, size, (((), (0,) * (size + 2)),), index=0)


if __name__ == "__main__":
    unittest.main()
