"""Deputies and holders (point 2)."""

import itertools
import unittest

from firstthere.deputies import chain, held_by, holder, holders, loads
from tests.support import OFFICE, Case, all_lots, few_deputies, handed_on, some_deputies


class Chain(Case):
    def test_worked_out_by_hand(self):
        self.same(chain((-1,), 0), (0,))
        self.same(chain((1, -1), 0), (0, 1))
        self.same(chain((1, 0), 1), (1, 0))
        self.same(chain((1, 0, 1), 2), (2, 1, 0))
        self.same(chain((1, 2, 3, 4, 5, -1), 0), (0, 1, 2, 3, 4, 5))
        self.same(chain((1, 2, 3, 4, 5, 0), 4), (4, 5, 0, 1, 2, 3))
        self.same(chain((1, 2, 0, 2, 3, -1), 4), (4, 3, 2, 0, 1))
        self.same(chain((1, 2, 0, 2, 3, -1), 5), (5,))

    def test_each_one_is_the_deputy_of_the_one_before(self):
        for deputies in some_deputies():
            for person in range(len(deputies)):
                found = chain(deputies, person)
                with self.subTest(deputies=deputies, person=person):
                    self.assertEqual(found[0], person)
                    self.assertEqual(found[1:], tuple(deputies[one] for one in found[:-1]))
                    self.assertEqual(len(set(found)), len(found))
                    self.assertIn(deputies[found[-1]], (OFFICE, *found))


class Holder(Case):
    def test_worked_out_by_hand(self):
        self.same(holder((-1,), (), 0), 0)
        self.same(holder((-1,), (0,), 0), -1)
        self.same(holder((1, 0), (0,), 0), 1)
        self.same(holder((1, 0), (0, 1), 0), -1)
        self.same(holder((1, 2, 0, 2, 3, -1), (2, 3, 4), 4), 0)
        self.same(holder((1, 2, 0, 2, 3, -1), (0, 2, 3, 4), 4), 1)
        self.same(holder((1, 2, 0, 2, 3, -1), (0, 1, 2, 3, 4), 4), -1)
        self.same(holder((1, 2, 0, 2, 3, -1), (0, 1, 2, 3), 4), 4)

    def test_handed_on_in_whatever_order(self):
        for deputies in few_deputies():
            for lot in all_lots(len(deputies)):
                found = holders(deputies, lot)
                for order in list(itertools.permutations(lot))[::7]:
                    with self.subTest(deputies=deputies, order=order):
                        self.same(found, handed_on(deputies, order)[-1])

    def test_handed_on_by_all_deputies(self):
        for deputies in some_deputies():
            for lot in all_lots(len(deputies)):
                with self.subTest(deputies=deputies, lot=lot):
                    expected = handed_on(deputies, lot[::-1])[-1]
                    self.same(holders(deputies, lot), expected)
                    self.same(tuple(holder(deputies, lot, one) for one in range(len(deputies))), expected)

    def test_nobody_and_everybody_gone(self):
        for deputies in some_deputies():
            people = tuple(range(len(deputies)))
            self.same(holders(deputies, ()), people)
            self.same(holders(deputies, people), (-1,) * len(people))


class HeldBy(Case):
    def test_worked_out_by_hand(self):
        self.same(held_by((1, -1, 0), (), 2), (2,))
        self.same(held_by((1, -1, 0), (), -1), ())
        self.same(held_by((1, -1, 0), (1,), -1), (1,))
        self.same(held_by((1, -1, 0), (0, 1, 2), -1), (0, 1, 2))
        self.same(held_by((1, -1, 0), (0, 1, 2), 1), ())
        self.same(held_by((5, 5, 5, 5, 5, -1), (0, 2, 3), 5), (0, 2, 3, 5))

    def test_as_the_holders(self):
        for deputies in some_deputies():
            for lot in all_lots(len(deputies)):
                held = handed_on(deputies, lot)[-1]
                for one in range(OFFICE, len(deputies)):
                    with self.subTest(deputies=deputies, lot=lot, one=one):
                        expected = tuple(duty for duty, by in enumerate(held) if by == one)
                        self.same(held_by(deputies, lot, one), expected)


class Loads(Case):
    def test_worked_out_by_hand(self):
        self.same(loads((-1,), ()), (1, 0))
        self.same(loads((-1,), (0,)), (0, 1))
        self.same(loads((5, 5, 5, 5, 5, -1), (0, 1, 2, 3, 4)), (0, 0, 0, 0, 0, 6, 0))
        self.same(loads((5, 5, 5, 5, 5, -1), (0, 5)), (0, 1, 1, 1, 1, 0, 2))

    def test_as_the_holders(self):
        for deputies in some_deputies():
            size = len(deputies)
            for lot in all_lots(size):
                with self.subTest(deputies=deputies, lot=lot):
                    expected = [0] * (size + 1)
                    for one in handed_on(deputies, lot)[-1]:
                        expected[one if one != OFFICE else size] += 1
                    self.same(loads(deputies, lot), tuple(expected))


if __name__ == "__main__":
    unittest.main()
