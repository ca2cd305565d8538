"""Deputies named anew (point 15)."""

import unittest

from firstthere.errors import BadOrder
from firstthere.naming import first_common, join_lot, reduced, renamed, shows_join_lot
from tests.support import (
    LARGE, OFFICE, Case, all_but, all_lots, can_come_to, few_deputies, held_when, next_there, some_deputies,
    whole_orders)

CHAIN = (1, 2, 3, 4, 5, -1)
RING = (1, 2, 3, 4, 5, 0)
INTO_A_ROUND = (1, 2, 0, 2, 3, -1)
THREE_ROUNDS = (5, 2, 1, 4, 3, 0)


def joined(deputies, one, other):
    """All lots whose leaving gives the duties of both to one and the same person."""
    rows = [(lot, held_when(deputies, lot)) for lot in all_lots(len(deputies))]
    return [lot for lot, held in rows if held[one] == held[other] != OFFICE]


def least_joined(deputies, one, other):
    lots = joined(deputies, one, other)
    return sorted(lot for lot in lots if len(lot) == min(map(len, lots)))


def in_turn(deputies, person):
    """The holders of the person's duty, if always its holder leaves."""
    gone = ()
    while held_when(deputies, gone)[person] != OFFICE:
        yield held_when(deputies, gone)[person]
        gone = tuple(sorted((*gone, held_when(deputies, gone)[person])))


class WorkedOut(Case):
    def test_reduced(self):
        self.same(reduced((-1,), ()), (-1,))
        self.same(reduced((-1,), (0,)), (-1,))
        self.same(reduced(CHAIN, (1, 2, 4)), (3, 3, 3, 5, 5, -1))
        self.same(reduced(CHAIN, (5,)), (1, 2, 3, 4, -1, -1))

    def test_reduced_by_a_whole_round(self):
        self.same(reduced((1, 0, 1), (0, 1)), (-1, -1, -1))
        self.same(reduced(THREE_ROUNDS, (1, 2)), (5, -1, -1, 4, 3, 0))
        self.same(reduced(INTO_A_ROUND, (0, 1, 2)), (-1, -1, -1, -1, 3, -1))
        self.same(reduced(RING, (0, 1, 2, 3, 4, 5)), (-1,) * 6)

    def test_reduced_by_all_of_a_round_but_one(self):
        self.same(reduced((1, 0), (0,)), (1, -1))
        self.same(reduced((1, 0), (1,)), (-1, 0))
        self.same(reduced(RING, (0, 1, 2, 4, 5)), (3, 3, 3, -1, 3, 3))
        self.same(reduced(INTO_A_ROUND, (1, 2)), (-1, 0, 0, 0, 3, -1))

    def test_renamed(self):
        self.same(renamed((-1,), (0,)), (-1,))
        self.same(renamed((1, -1), (1, 0)), (-1, 0))
        self.same(renamed(CHAIN, (5, 4, 3, 2, 1, 0)), (-1, 0, 1, 2, 3, 4))
        self.same(renamed(CHAIN, (2, 0, 1, 5, 3, 4)), (1, 5, 0, 4, -1, 3))
        self.same(renamed(RING, (1, 2, 3, 4, 5, 0)), RING)

    def test_first_common(self):
        self.same([first_common((-1,), 0, 0), first_common((-1, -1), 0, 1)], [0, -1])
        self.same([first_common(CHAIN, 1, 4), first_common(CHAIN, 4, 1)], [4, 4])
        self.same([first_common(INTO_A_ROUND, 4, 1), first_common(INTO_A_ROUND, 1, 4)], [2, 1])
        self.same([first_common(INTO_A_ROUND, 4, 5), first_common(THREE_ROUNDS, 0, 1)], [-1, -1])

    def test_join_lot(self):
        self.same([join_lot((-1,), 0, 0), join_lot((1, 0), 0, 0)], [(), ()])
        self.same([join_lot(CHAIN, 1, 4), join_lot(CHAIN, 4, 1)], [(1, 2, 3), (1, 2, 3)])
        self.same([join_lot(RING, 0, 1), join_lot(RING, 0, 3), join_lot(RING, 0, 5)], [(0,), (0, 1, 2), (5,)])
        self.same(join_lot((2, 2, -1), 0, 1), (0, 1))
        self.same(join_lot(THREE_ROUNDS, 0, 1), None)
        self.same(join_lot(THREE_ROUNDS, 0, 5), (0,))

    def test_shows_join_lot(self):
        self.same(shows_join_lot(THREE_ROUNDS, 0, 5, (5,)), True)
        self.same(shows_join_lot(THREE_ROUNDS, 0, 5, (0, 1)), False)
        self.same(shows_join_lot(THREE_ROUNDS, 0, 5, ()), False)
        self.same(shows_join_lot(THREE_ROUNDS, 0, 5, (0, 5)), False)
        self.same(shows_join_lot(THREE_ROUNDS, 0, 1, None), True)
        self.same(shows_join_lot(THREE_ROUNDS, 0, 5, None), False)
        self.same(shows_join_lot(RING, 0, 3, (3, 4, 5)), True)


class Reduced(Case):
    def test_the_first_one_behind(self):
        for deputies in some_deputies():
            for gone in all_lots(len(deputies)):
                people = range(len(deputies))
                expected = tuple(next_there(deputies, {*gone, person}, person) for person in people)
                with self.subTest(deputies=deputies, gone=gone):
                    self.same(reduced(deputies, gone), expected)

    def test_the_same_holders_for_those_who_are_there(self):
        for deputies in few_deputies():
            lots = all_lots(len(deputies))
            for gone in lots:
                less = reduced(deputies, gone)
                for more in lots:
                    if not set(gone) & set(more):
                        both = tuple(sorted(gone + more))
                        there = all_but(len(deputies), *gone)
                        held = [held_when(less, more)[person] for person in there]
                        self.same(held, [held_when(deputies, both)[person] for person in there])

    def test_nobody_who_left_is_named(self):
        for deputies in LARGE:
            for gone in all_lots(len(deputies)):
                self.assertFalse(set(reduced(deputies, gone)) & set(gone))
            self.same(reduced(deputies, ()), deputies)
            self.same(reduced(deputies, tuple(range(len(deputies)))), (-1,) * len(deputies))


class Renamed(Case):
    def test_each_new_name(self):
        for deputies in few_deputies():
            for order in whole_orders(len(deputies))[::1 if len(deputies) < 5 else 7]:
                found = renamed(deputies, order)
                expected = {order[person]: order[named] if named >= 0 else -1 for person, named in enumerate(deputies)}
                with self.subTest(deputies=deputies, order=order):
                    self.same(found, tuple(expected[person] for person in range(len(deputies))))

    def test_and_back(self):
        for deputies in few_deputies():
            size = len(deputies)
            for order in whole_orders(size)[::5]:
                back = tuple(order.index(person) for person in range(size))
                self.same(renamed(renamed(deputies, order), back), deputies)
            self.same(renamed(deputies, tuple(range(size))), deputies)

    def test_orders_that_are_not_whole(self):
        for order in ((), (0,), (1,), (0, 0), (0, 1, 2), (0, 2), (1, -1), (True, 0), [1, 0], None, 10, "10", {0: 1}):
            self.fails(BadOrder, renamed, (1, 0), order)


class Common(Case):
    def test_first_common(self):
        for deputies in some_deputies():
            for one in range(len(deputies)):
                for other in range(len(deputies)):
                    both = [by for by in in_turn(deputies, one) if can_come_to(deputies, other, by)]
                    with self.subTest(deputies=deputies, one=one, other=other):
                        self.same(first_common(deputies, one, other), both[0] if both else OFFICE)

    def test_a_person_and_itself(self):
        for deputies in LARGE:
            for person in range(len(deputies)):
                self.same(first_common(deputies, person, person), person)
                self.same(join_lot(deputies, person, person), ())
                self.same(shows_join_lot(deputies, person, person, ()), True)
                self.same(shows_join_lot(deputies, person, person, None), False)

    def test_join_lot(self):
        for deputies in some_deputies():
            for one in range(len(deputies)):
                for other in range(len(deputies)):
                    good = least_joined(deputies, one, other)
                    with self.subTest(deputies=deputies, one=one, other=other):
                        self.same(join_lot(deputies, one, other), good[0] if good else None)
                        self.assertIs(
                            shows_join_lot(deputies, one, other, join_lot(deputies, one, other)), True)

    def test_there_is_a_lot_exactly_where_there_is_a_common_one(self):
        for deputies in some_deputies():
            for one in range(len(deputies)):
                for other in range(len(deputies)):
                    self.same(join_lot(deputies, one, other) is None, first_common(deputies, one, other) == OFFICE)

    def test_shows_join_lot(self):
        for deputies in few_deputies()[::2]:
            lots = all_lots(len(deputies))
            for one in range(len(deputies)):
                for other in range(len(deputies)):
                    good = least_joined(deputies, one, other) or [None]
                    self.shows(shows_join_lot, (deputies, one, other), good, lots)


if __name__ == "__main__":
    unittest.main()
