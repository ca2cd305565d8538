"""Keepers for costs, and papers for them (point 9)."""

import fractions
import itertools
import unittest

from firstthere.costs import cheap_keepers, keeper_paper, shows_cheap_keepers, shows_keeper_paper
from firstthere.errors import BadCosts
from tests.support import (
    ODD_VALUES, OFFICE, Case, all_but, all_lots, as_ratio, can_come_to, few_deputies, held_when, near)

INTO_A_ROUND = (1, 2, 0, 2, 3, -1)
THREE_ROUNDS = (5, 2, 1, 4, 3, 0)

SOME_COSTS = (
    (0, 0, 0, 0, 0, 0), (1000, 1000, 1000, 1000, 1000, 1000), (0, 1000, 0, 1000, 7, 0), (5, 3, 1, 4, 2, 6),
    (1, 2, 3, 4, 5, 6), (2, 0, 2, 1, 0, 3), (1000, 999, 998, 1, 0, 1000),
)


def keep(deputies, lot):
    """Whether no duty comes to the office if all but the lot leave."""
    return OFFICE not in held_when(deputies, all_but(len(deputies), *lot))


def all_priced(deputies, costs):
    return [(sum(costs[one] for one in lot), lot) for lot in all_lots(len(deputies)) if keep(deputies, lot)]


def cheapest(deputies, costs):
    pairs = all_priced(deputies, costs)
    return [pair for pair in pairs if pair[0] == min(pairs)[0]]


def is_whole(value):
    return value.__class__ is int


def is_low(value):
    """Whether the value is a ratio from 0 on."""
    if value.__class__ is not tuple or len(value) != 2 or not is_whole(value[0]) or not is_whole(value[1]):
        return False
    return value[0] >= 0 and value[1] > 0 and as_ratio(*value) == value


def is_paper(deputies, costs, value):
    """Whether the value is what the document says of a paper."""
    people = range(len(deputies))
    if value.__class__ is not tuple or len(value) != len(deputies) or not all(is_low(each) for each in value):
        return False
    amounts = [fractions.Fraction(*each) for each in value]
    paid = [sum(amounts[duty] for duty in people if can_come_to(deputies, duty, person)) for person in people]
    return sum(amounts) == min(all_priced(deputies, costs))[0] and all(paid[one] <= costs[one] for one in people)


def cases():
    for deputies in few_deputies():
        for costs in SOME_COSTS:
            yield deputies, costs[:len(deputies)]


class WorkedOut(Case):
    def test_cheap_keepers(self):
        self.same(cheap_keepers((-1,), (0,)), (0, (0,)))
        self.same(cheap_keepers((-1,), (1000,)), (1000, (0,)))
        self.same(cheap_keepers((1, 0), (1000, 999)), (999, (1,)))
        self.same(cheap_keepers(INTO_A_ROUND, (5, 3, 4, 1, 1, 9)), (12, (1, 5)))
        self.same(cheap_keepers(THREE_ROUNDS, (1, 2, 3, 4, 5, 6)), (7, (0, 1, 3)))
        self.same(cheap_keepers(THREE_ROUNDS, (6, 5, 4, 3, 2, 1)), (7, (2, 4, 5)))
        self.same(cheap_keepers((-1,) * 6, (1000,) * 6), (6000, (0, 1, 2, 3, 4, 5)))

    def test_shows_cheap_keepers(self):
        self.same(shows_cheap_keepers((1, 0), (4, 4), (4, (0,))), True)
        self.same(shows_cheap_keepers((1, 0), (4, 4), (4, (1,))), True)
        self.same(shows_cheap_keepers((1, 0), (4, 4), (8, (0, 1))), False)
        self.same(shows_cheap_keepers((1, 0), (4, 0), (4, (0, 1))), False)
        self.same(shows_cheap_keepers((1, 0, 1), (4, 0, 0), (0, (1, 2))), True)
        self.same(shows_cheap_keepers((1, 0, 1), (4, 0, 0), (0, (2,))), False)
        self.same(shows_cheap_keepers((1, 0, 1), (4, 0, 0), (0, (0, 1))), False)

    def test_keeper_paper(self):
        self.same(keeper_paper((-1,), (0,)), ((0, 1),))
        self.same(keeper_paper((-1,), (1000,)), ((1000, 1),))
        self.same(keeper_paper((-1, 0), (7, 0)), ((7, 1), (0, 1)))

    def test_shows_keeper_paper(self):
        self.same(shows_keeper_paper((1, 0), (3, 5), ((3, 1), (0, 1))), True)
        self.same(shows_keeper_paper((1, 0), (3, 5), ((1, 2), (5, 2))), True)
        self.same(shows_keeper_paper((1, 0), (3, 5), ((1, 3), (8, 3))), True)
        self.same(shows_keeper_paper((1, 0), (3, 5), ((1, 2), (2, 1))), False)
        self.same(shows_keeper_paper((1, 0), (3, 5), ((1, 2), (3, 1))), False)
        self.same(shows_keeper_paper((1, 0), (3, 5), ((4, 1), (-1, 1))), False)
        self.same(shows_keeper_paper((1, 0), (3, 5), ((6, 2), (0, 1))), False)
        self.same(shows_keeper_paper((1, 0), (3, 5), ((3, 1), (0, 2))), False)
        self.same(shows_keeper_paper((1, 0), (3, 5), ((3, 1), (0, -1))), False)
        self.same(shows_keeper_paper((1, 0), (3, 5), ((-3, -1), (0, 1))), False)
        self.same(shows_keeper_paper((1, 0), (3, 5), ((3, 1), (0, 0))), False)
        self.same(shows_keeper_paper((1, 0), (3, 5), ((1, 0), (1, 0))), False)
        self.same(shows_keeper_paper((1, 2, 0), (3, 3, 3), ((3, 1), (0, -1), (0, -1))), False)
        self.same(shows_keeper_paper((1, 2, 0), (3, 3, 3), ((7, 1), (2, -1), (2, -1))), False)
        self.same(shows_keeper_paper((1, 0, 1), (3, 5, 2), ((1, 1), (0, 1), (2, 1))), True)
        self.same(shows_keeper_paper((1, 0, 1), (3, 5, 1), ((1, 1), (0, 1), (2, 1))), False)
        self.same(shows_keeper_paper((-1, -1), (3, 5), ((5, 1), (3, 1))), False)


class AllLots(Case):
    def test_cheap_keepers(self):
        for deputies, costs in cases():
            good = cheapest(deputies, costs)
            with self.subTest(deputies=deputies, costs=costs):
                self.assertIn(repr(cheap_keepers(deputies, costs)), [repr(pair) for pair in good])

    def test_shows_cheap_keepers(self):
        for deputies, costs in list(cases())[::3]:
            lots = all_lots(len(deputies))
            pairs = [(sum(costs[one] for one in lot) + more, lot) for lot in lots for more in (-1, 0, 1)]
            least = min(all_priced(deputies, costs))[0]
            pairs += [(least, lot) for lot in lots]
            self.shows(shows_cheap_keepers, (deputies, costs), cheapest(deputies, costs), pairs)
            self.assertIs(shows_cheap_keepers(deputies, costs, cheap_keepers(deputies, costs)), True)

    def test_other_kinds(self):
        for value in ((1, [0]), [1, (0,)], (True, (0,)), (1, (False,)), (1, 0), 1, (0,), "1", {1: (0,)}, None, (1,)):
            self.assertIs(shows_cheap_keepers((-1,), (1,), value), False)


class Papers(Case):
    def test_keeper_paper(self):
        for deputies, costs in cases():
            paper = keeper_paper(deputies, costs)
            with self.subTest(deputies=deputies, costs=costs):
                self.assertTrue(is_paper(deputies, costs, paper), paper)
                self.assertIs(shows_keeper_paper(deputies, costs, paper), True)

    def test_near_and_odd_values(self):
        for deputies, costs in list(cases())[::4]:
            paper = keeper_paper(deputies, costs)
            for value in (paper[::-1], *near(paper), *ODD_VALUES, 0, ()):
                with self.subTest(deputies=deputies, costs=costs, value=value):
                    self.assertIs(shows_keeper_paper(deputies, costs, value), is_paper(deputies, costs, value))

    def test_all_papers_of_a_grid(self):
        amounts = [
            (0, 1), (1, 3), (1, 2), (2, 3), (1, 1), (4, 3), (3, 2), (2, 1), (3, 1), (-1, 1), (2, 2), (0, 2), (0, -1),
            (1, 0), (1, -1)]
        shown = 0
        for deputies in ((-1, -1, -1), (1, 0, -1), (1, 0, 1), (1, 2, 0), (1, 2, -1), (-1, 0, 0)):
            for costs in ((2, 1, 1), (0, 2, 3), (2, 2, 2), (1, 0, 1)):
                for value in itertools.product(amounts, repeat=3):
                    expected = is_paper(deputies, costs, value)
                    shown += expected
                    self.assertIs(shows_keeper_paper(deputies, costs, value), expected, (deputies, costs, value))
        self.assertGreater(shown, 100)

    def test_large_numbers(self):
        big = 10 ** 60
        self.assertIs(shows_keeper_paper((1, 0), (1, 1), ((1, big), (big - 1, big))), True)
        self.assertIs(shows_keeper_paper((1, 0), (1, 1), ((1, big), (big - 3, big))), False)
        self.assertIs(shows_keeper_paper((1, 0), (1, 1), ((big, big), (0, 1))), False)


class Wrong(Case):
    def test_costs_at_both_ends(self):
        for costs in ((-1, 0), (0, 1001), (0,), (0, 0, 0), (True, 0), [0, 0], None, "00"):
            self.fails(BadCosts, cheap_keepers, (1, 0), costs)
            self.fails(BadCosts, shows_cheap_keepers, (1, 0), costs, (0, (0,)))
            self.fails(BadCosts, keeper_paper, (1, 0), costs)
            self.fails(BadCosts, shows_keeper_paper, (1, 0), costs, ((0, 1), (0, 1)))


if __name__ == "__main__":
    unittest.main()
