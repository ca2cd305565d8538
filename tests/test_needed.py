"""Who must leave that somebody holds a duty, or many duties (point 8)."""

import unittest

from firstthere.errors import BadCount, BadPerson
from firstthere.needed import (
    fewest_load, greatest_load, least_gone, load_lots, shows_fewest_load, shows_greatest_load)
from tests.support import LARGE, OFFICE, Case, all_lots, few_deputies, held_when, loads_when, some_deputies

CHAIN = (1, 2, 3, 4, 5, -1)
STAR = (5, 5, 5, 5, 5, -1)
INTO_A_ROUND = (1, 2, 0, 2, 3, -1)


def loading(deputies, person, many):
    """All lots without the person whose leaving gives it at least so many duties."""
    lots = [lot for lot in all_lots(len(deputies)) if person not in lot]
    return [lot for lot in lots if loads_when(deputies, lot)[person] >= many]


def least_of(lots):
    fewest = min((len(lot) for lot in lots), default=None)
    return sorted(lot for lot in lots if len(lot) == fewest)


def most_of(deputies, many):
    """All pairs of the greatest load of a person and a lot of at most so many that gives it."""
    pairs = [(max(loads_when(deputies, lot)[:-1]), lot) for lot in all_lots(len(deputies)) if len(lot) <= many]
    return [pair for pair in pairs if pair[0] == max(pairs)[0]]


class WorkedOut(Case):
    def test_least_gone(self):
        self.same([least_gone((-1,), 0, 0), least_gone((-1,), 0, -1)], [(), (0,)])
        self.same([least_gone(CHAIN, 1, other) for other in range(-1, 6)],
                  [(1, 2, 3, 4, 5), None, (), (1,), (1, 2), (1, 2, 3), (1, 2, 3, 4)])
        self.same([least_gone(INTO_A_ROUND, 4, other) for other in range(-1, 6)],
                  [(0, 1, 2, 3, 4), (2, 3, 4), (0, 2, 3, 4), (3, 4), (4,), (), None])
        self.same(least_gone((1, 0), 1, -1), (0, 1))

    def test_fewest_load(self):
        self.same([fewest_load((-1,), 0, many) for many in range(7)], [(), ()] + [None] * 5)
        self.same([fewest_load(STAR, 5, many) for many in range(7)],
                  [(), (), (0,), (0, 1), (0, 1, 2), (0, 1, 2, 3), (0, 1, 2, 3, 4)])
        self.same([fewest_load(STAR, 0, many) for many in range(3)], [(), (), None])
        self.same([fewest_load(CHAIN, 2, many) for many in range(5)], [(), (), (1,), (0, 1), None])
        self.same([fewest_load(INTO_A_ROUND, 2, many) for many in range(7)],
                  [(), (), (1,), (0, 1), (0, 1, 3), (0, 1, 3, 4), None])

    def test_load_lots(self):
        self.same([load_lots((-1,), 0, many) for many in range(4)], [1, 1, 0, 0])
        self.same([load_lots(STAR, 5, many) for many in range(7)], [32, 32, 31, 26, 16, 6, 1])
        self.same([load_lots(STAR, 0, many) for many in range(4)], [32, 32, 0, 0])
        self.same([load_lots(CHAIN, 2, many) for many in range(5)], [32, 32, 16, 8, 0])

    def test_greatest_load(self):
        self.same([greatest_load((-1,), many) for many in (0, 1, 6)], [(1, ())] * 3)
        self.same(greatest_load(STAR, 5), (6, (0, 1, 2, 3, 4)))
        self.same(greatest_load(STAR, 6), (6, (0, 1, 2, 3, 4)))
        self.same([greatest_load(STAR, many)[0] for many in range(7)], [1, 2, 3, 4, 5, 6, 6])
        self.same([greatest_load(INTO_A_ROUND, many)[0] for many in range(7)], [1, 2, 3, 4, 5, 5, 5])
        self.same(greatest_load(CHAIN, 0), (1, ()))

    def test_shows(self):
        self.same(shows_fewest_load(STAR, 5, 2, (4,)), True)
        self.same(shows_fewest_load(STAR, 5, 2, (0, 1)), False)
        self.same(shows_fewest_load(STAR, 0, 2, None), True)
        self.same(shows_fewest_load(STAR, 5, 2, None), False)
        self.same(shows_fewest_load(STAR, 0, 2, ()), False)
        self.same(shows_greatest_load(STAR, 2, (3, (2, 4))), True)
        self.same(shows_greatest_load(STAR, 2, (2, (2,))), False)
        self.same(shows_greatest_load(STAR, 2, (4, (2, 3, 4))), False)
        self.same(shows_greatest_load((1, 0, -1), 6, (2, (0, 2))), True)


class AllLots(Case):
    def test_least_gone(self):
        for deputies in some_deputies():
            for person in range(len(deputies)):
                for other in range(OFFICE, len(deputies)):
                    lots = [lot for lot in all_lots(len(deputies)) if held_when(deputies, lot)[person] == other]
                    found = least_of(lots)
                    with self.subTest(deputies=deputies, person=person, other=other):
                        self.assertLessEqual(len(found), 1)
                        self.same(least_gone(deputies, person, other), found[0] if found else None)

    def test_loads(self):
        for deputies in some_deputies():
            for person in range(len(deputies)):
                for many in range(7):
                    lots = loading(deputies, person, many)
                    with self.subTest(deputies=deputies, person=person, many=many):
                        self.same(load_lots(deputies, person, many), len(lots))
                        self.same(fewest_load(deputies, person, many), least_of(lots)[0] if lots else None)

    def test_greatest_load(self):
        for deputies in some_deputies():
            for many in range(7):
                with self.subTest(deputies=deputies, many=many):
                    self.assertIn(repr(greatest_load(deputies, many)), [repr(one) for one in most_of(deputies, many)])

    def test_a_person_holds_its_own_duty_with_nobody_gone(self):
        for deputies in LARGE:
            for person in range(len(deputies)):
                self.same(least_gone(deputies, person, person), ())
                for many in (0, 1):
                    self.same(fewest_load(deputies, person, many), ())
                    self.same(load_lots(deputies, person, many), 2 ** (len(deputies) - 1))


class Shows(Case):
    def test_fewest_load(self):
        for deputies in few_deputies()[::2]:
            lots = all_lots(len(deputies))
            for person in range(len(deputies)):
                for many in range(7):
                    good = least_of(loading(deputies, person, many)) or [None]
                    self.shows(shows_fewest_load, (deputies, person, many), good, lots)
                    self.assertIs(
                        shows_fewest_load(deputies, person, many, fewest_load(deputies, person, many)), True)

    def test_greatest_load(self):
        for deputies in few_deputies()[::3]:
            pairs = [(load, lot) for load in range(8) for lot in all_lots(len(deputies))]
            for many in range(7):
                self.shows(shows_greatest_load, (deputies, many), most_of(deputies, many), pairs)
                self.assertIs(shows_greatest_load(deputies, many, greatest_load(deputies, many)), True)

    def test_other_kinds(self):
        for value in (True, 1, (1,), [1], ["1"], (True,), {1: 1}, "1", (1, 0), (0, 0), (7,), (-1,)):
            self.assertIs(shows_fewest_load((1, 0), 0, 2, value), value == (1,) and repr(value) == "(1,)")
        for value in ((True, ()), [1, ()], (1, []), (1, None), (1,), (1, (), ()), ((), 1), "1()", {1: ()}, 1, None):
            self.assertIs(shows_greatest_load((-1,), 0, value), False)
        for value in ((2, (False,)), (2, [0]), (2, (0, 0)), (2, (1, 0)), ("2", (0,)), (2, 0), (2, ((0,),))):
            self.assertIs(shows_greatest_load((1, 0), 2, value), False)


class Wrong(Case):
    def test_counts_just_outside(self):
        for many in (-1, 7, True, False, None, "2", (2,)):
            self.fails(BadCount, fewest_load, CHAIN, 0, many)
            self.fails(BadCount, shows_fewest_load, CHAIN, 0, many, None)
            self.fails(BadCount, load_lots, CHAIN, 0, many)
            self.fails(BadCount, greatest_load, CHAIN, many)
            self.fails(BadCount, shows_greatest_load, CHAIN, many, (1, ()))

    def test_the_office_where_a_person_is_asked(self):
        self.fails(BadPerson, least_gone, (1, 0), -1, 0)
        self.fails(BadPerson, fewest_load, (1, 0), -1, 0)
        self.fails(BadPerson, shows_fewest_load, (1, 0), -1, 0, ())
        self.fails(BadPerson, load_lots, (1, 0), -1, 0)


if __name__ == "__main__":
    unittest.main()
