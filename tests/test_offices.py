"""An office in time (point 25)."""

import itertools
import unittest

from firstthere.deputies import holders
from firstthere.errors import BadDeputies, BadPerson, NothingToUndo, NotThere
from firstthere.leaving import in_time, leaving
from firstthere.offices import Office
from tests.support import (
    LARGE, ODD_VALUES, Case, all_deputies, few_deputies, handed_on, held_when, whole_orders)
from tests.wrong import NO_DEPUTIES

CHAIN = (1, 2, 3, 4, 5, -1)
UNDO = "undo"


class OfficeCase(Case):
    def stands(self, office, deputies, left):
        """Those who left are just these, in this order, and the duties are held accordingly."""
        lot = tuple(sorted(left))
        self.same([office.order(), office.gone()], [left, lot])
        self.same(office.holders(), held_when(deputies, lot))
        self.same(office.holders(), holders(deputies, lot))
        self.same(office.holders(), in_time(deputies, left)[-1])

    def lets_leave(self, office, deputies, left, person):
        before, behind = handed_on(deputies, (*left, person))[-2:]
        pairs = tuple((duty, to) for duty, (by, to) in enumerate(zip(before, behind)) if by == person)
        self.same(leaving(deputies, tuple(sorted(left)), person), pairs)
        self.same(office.leave(person), pairs)

    def goes_so(self, deputies, calls):
        """A row of leavings and undoings, those that cannot be among them."""
        office = Office(deputies)
        left = ()
        self.stands(office, deputies, left)
        for call in calls:
            if call == UNDO and left:
                self.same(office.undo(), None)
                left = left[:-1]
            elif call == UNDO:
                self.fails(NothingToUndo, office.undo)
            elif call in left:
                self.fails(NotThere, office.leave, call)
            elif call in range(len(deputies)):
                self.lets_leave(office, deputies, left, call)
                left += (call,)
            else:
                self.fails(BadPerson, office.leave, call)
            self.stands(office, deputies, left)


class WorkedOut(OfficeCase):
    def test_nobody_left(self):
        for deputies in ((-1,), (1, 0), CHAIN):
            self.stands(Office(deputies), deputies, ())

    def test_everybody_leaves(self):
        office = Office((1, 0, 1, -1))
        self.same(office.leave(1), ((1, 0),))
        self.same(office.leave(2), ((2, 0),))
        self.same(office.leave(3), ((3, -1),))
        self.same(office.holders(), (0, 0, 0, -1))
        self.same(office.leave(0), ((0, -1), (1, -1), (2, -1)))
        self.same([office.holders(), office.gone(), office.order()], [(-1,) * 4, (0, 1, 2, 3), (1, 2, 3, 0)])
        for person in range(4):
            self.fails(NotThere, office.leave, person)

    def test_undo(self):
        office = Office((1, -1))
        self.fails(NothingToUndo, office.undo)
        self.same(office.leave(0), ((0, 1),))
        self.same(office.leave(1), ((0, -1), (1, -1)))
        self.same([office.undo(), office.order(), office.holders()], [None, (0,), (1, 1)])
        self.same([office.undo(), office.order(), office.holders()], [None, (), (0, 1)])
        self.fails(NothingToUndo, office.undo)
        self.same([office.order(), office.gone(), office.holders()], [(), (), (0, 1)])

    def test_leaving_again_behind_an_undo(self):
        office = Office((1, 2, -1))
        self.same([office.leave(1), office.undo(), office.leave(1)], [((1, 2),), None, ((1, 2),)])
        self.same([office.leave(0), office.undo(), office.leave(2), office.order()],
                  [((0, 2),), None, ((1, -1), (2, -1)), (1, 2)])
        self.same(office.leave(0), ((0, -1),))

    def test_who_is_wrong(self):
        for size in (1, 2, 6):
            office = Office((-1,) * size)
            for person in (*ODD_VALUES, -1, -2, size, 60, (0,), 2 ** 70):
                self.fails(BadPerson, office.leave, person)
            office.leave(0)
            for person in (*ODD_VALUES, -1, size):
                self.fails(BadPerson, office.leave, person)
            self.fails(NotThere, office.leave, 0)
            self.stands(office, (-1,) * size, (0,))


class RowsOfCalls(OfficeCase):
    def test_all_rows_of_small_offices(self):
        for size, many in ((1, 5), (2, 5), (3, 4)):
            for deputies in all_deputies(size):
                for calls in itertools.product((*range(size), UNDO), repeat=many):
                    self.goes_so(deputies, calls)

    def test_rows_with_errors_between(self):
        for deputies in (*few_deputies()[::5], *LARGE):
            size = len(deputies)
            for step in (1, 2, 5):
                calls = [step * at * (at + 7) // 2 % (size + 2) - 1 for at in range(25)]
                self.goes_so(deputies, [UNDO if call == size else call for call in calls])
                self.goes_so(deputies, [UNDO if at % 3 == 2 else call for at, call in enumerate(calls)])

    def test_whole_orders_and_back(self):
        for deputies in (*few_deputies()[::7], *LARGE[::2]):
            size = len(deputies)
            for order in whole_orders(size)[::1 if size < 4 else 53]:
                self.goes_so(deputies, (*order, *order, *[UNDO] * (size + 2), *order[::-1], UNDO, order[0]))

    def test_two_offices(self):
        for deputies in (CHAIN, (1, 2, 3, 4, 5, 0)):
            one, other, third = Office(deputies), Office(deputies), Office((1, 0))
            one.leave(3)
            self.stands(other, deputies, ())
            other.leave(1)
            other.leave(3)
            third.leave(0)
            one.undo()
            self.fails(NothingToUndo, one.undo)
            self.fails(NotThere, other.leave, 3)
            self.stands(one, deputies, ())
            self.stands(other, deputies, (1, 3))
            self.stands(third, (1, 0), (0,))

    def test_what_it_told_does_not_change(self):
        office = Office(CHAIN)
        told = [office.leave(1), office.holders(), office.gone(), office.order()]
        before = repr(told)
        for person in (0, 2, 5):
            office.leave(person)
        office.undo()
        self.assertEqual(repr(told), before)


class Wrong(Case):
    def test_no_deputies(self):
        for value in NO_DEPUTIES:
            self.fails(BadDeputies, Office, value)


if __name__ == "__main__":
    unittest.main()
