"""How sure it is that no duty comes to the office (point 28)."""

import fractions
import functools
import itertools
import math
import unittest

from firstthere.errors import BadCount, BadPerson, TooMany
from firstthere.sure import (
    both_out, fewest_sure, least_chain, shows_fewest_sure, spread, sure_count, surest)
from tests.support import (
    LARGE, ODD_VALUES, OFFICE, Case, all_deputies, all_lots, as_ratio, few_deputies, held_when, loads_when, near,
    some_deputies)

CHAIN = (1, 2, 3, 4, 5, -1)
RING = (1, 2, 3, 4, 5, 0)
PAIRS = (1, 0, 3, 2)


def lots_of(size, many):
    return list(itertools.combinations(range(size), many))


@functools.lru_cache(maxsize=None)
def is_sure(deputies, many):
    """Whether so many can leave, and no duty comes to the office whoever they are."""
    lots = lots_of(len(deputies), many)
    return len(lots) > 0 and all(OFFICE not in held_when(deputies, lot) for lot in lots)


def chain_length(deputies, person):
    met = []
    while person != OFFICE and person not in met:
        met.append(person)
        person = deputies[person]
    return len(met)


def all_fewest(deputies, many):
    """All pairs of the fewest changes and deputies that have them."""
    known = [(sum(map(int.__ne__, deputies, others)), others)
             for others in all_deputies(len(deputies)) if is_sure(others, many)]
    return [pair for pair in known if pair[0] == min(known)[0]]


def without_pairs(size):
    """How many there are of so many people in which everybody names somebody, and no two name each other."""
    total = 0
    for pairs in range(size // 2 + 1):
        chosen = math.factorial(size) // (math.factorial(size - 2 * pairs) * math.factorial(pairs) * 2 ** pairs)
        total += (-1) ** pairs * chosen * (size - 1) ** (size - 2 * pairs)
    return total


class WorkedOut(Case):
    def test_shortest_chains(self):
        self.same([least_chain((-1,)), surest((-1,))], [1, 0])
        self.same([least_chain(CHAIN), surest(CHAIN)], [1, 0])
        self.same([least_chain(RING), surest(RING)], [6, 5])
        self.same([least_chain(PAIRS), surest(PAIRS)], [2, 1])
        self.same([least_chain((1, 2, 0, 0)), surest((1, 2, 0, 0))], [3, 2])

    def test_sure_count(self):
        self.same([sure_count(1, many) for many in (0, 1)], [1, 0])
        self.same([sure_count(2, many) for many in (0, 1, 2)], [4, 1, 0])
        self.same([sure_count(3, many) for many in range(4)], [27, 8, 2, 0])
        self.same([sure_count(4, many) for many in range(5)], [256, 81, 30, 6, 0])

    def test_fewest_sure(self):
        self.same([fewest_sure((-1,), many) for many in range(4)], [(0, (-1,)), None, None, None])
        self.same([fewest_sure((-1, 0), many) for many in range(4)], [(0, (-1, 0)), (1, (1, 0)), None, None])
        self.same(fewest_sure((1, 2, 0), 2), (0, (1, 2, 0)))
        self.same(fewest_sure((1, 2, -1), 2), (1, (1, 2, 0)))
        self.same(fewest_sure((1, 2, 0), 3), None)
        self.same(fewest_sure((1, 2, 3, 2), 3), (1, (1, 2, 3, 0)))
        self.same(fewest_sure((-1, -1, -1, -1), 1)[0], 4)
        self.same(fewest_sure(PAIRS, 2)[0], 2)
        self.same(fewest_sure(PAIRS, 0), (0, PAIRS))

    def test_shows_fewest_sure(self):
        self.same(shows_fewest_sure((-1, 0, 0), 1, (1, (1, 0, 0))), True)
        self.same(shows_fewest_sure((-1, 0, 0), 1, (1, (2, 0, 0))), True)
        self.same(shows_fewest_sure((-1, 0, 0), 1, (2, (2, 2, 0))), False)
        self.same(shows_fewest_sure((-1, 0, 0), 1, (1, (-1, 0, 1))), False)
        self.same(shows_fewest_sure((-1, 0, 0), 1, None), False)
        self.same(shows_fewest_sure((-1, 0, 0), 3, None), True)
        self.same(shows_fewest_sure((-1, 0), 2, None), True)
        self.same(shows_fewest_sure((-1, 0), 2, (0, (-1, 0))), False)
        self.same(shows_fewest_sure((-1, 0), 3, None), True)
        self.same(shows_fewest_sure((-1, 0), 3, (0, (-1, 0))), False)

    def test_spread(self):
        self.same([spread((-1,), many) for many in (0, 1)], [(0, 1), (0, 1)])
        self.same([spread((1, -1), many) for many in (0, 1, 2)], [(0, 1), (1, 4), (0, 1)])
        self.same([spread((-1, -1, 0), many) for many in range(4)], [(0, 1), (2, 9), (2, 9), (0, 1)])
        self.same([spread(CHAIN, many)[0] for many in (0, 6)], [0, 0])
        self.same(spread(CHAIN, 1), (5, 36))
        self.same(spread((5, 5, 5, 5, 5, -1), 5), (125, 36))

    def test_both_out(self):
        self.same([both_out((1, -1), many, 0, 1) for many in (0, 1, 2)], [(0, 1), (0, 1), (1, 1)])
        self.same([both_out((1, -1), many, 1, 1) for many in (0, 1, 2)], [(0, 1), (1, 2), (1, 1)])
        self.same([both_out((-1,) * 4, many, 0, 3) for many in range(5)], [(0, 1), (0, 1), (1, 6), (1, 2), (1, 1)])


class AllLots(Case):
    def test_shortest_chains(self):
        for deputies in some_deputies():
            sure = [many for many in range(len(deputies) + 1) if is_sure(deputies, many)]
            with self.subTest(deputies=deputies):
                self.same(surest(deputies), max(sure))
                self.same(sure, list(range(len(sure))))
                self.same(least_chain(deputies), max(sure) + 1)

    def test_spread(self):
        for deputies in some_deputies():
            for many in range(len(deputies) + 1):
                numbers = [loads_when(deputies, lot)[-1] for lot in lots_of(len(deputies), many)]
                mean = fractions.Fraction(sum(numbers), len(numbers))
                total = sum((number - mean) ** 2 for number in numbers) / len(numbers)
                with self.subTest(deputies=deputies, many=many):
                    self.same(spread(deputies, many), (total.numerator, total.denominator))

    def test_both_out(self):
        for deputies in few_deputies():
            size = len(deputies)
            for many in range(size + 1):
                lots = lots_of(size, many)
                for one, other in itertools.product(range(size), repeat=2):
                    rows = [held_when(deputies, lot) for lot in lots]
                    out = [held for held in rows if held[one] == OFFICE == held[other]]
                    with self.subTest(deputies=deputies, many=many, one=one, other=other):
                        self.same(both_out(deputies, many, one, other), as_ratio(len(out), len(lots)))

    def test_the_lots_come_once(self):
        self.assertEqual(sum(len(lots_of(6, many)) for many in range(7)), len(all_lots(6)))


class AllNumbers(Case):
    def test_sure_count_of_few_people(self):
        for size in range(1, 5):
            for many in range(size + 1):
                expected = len([deputies for deputies in all_deputies(size) if is_sure(deputies, many)])
                self.same(sure_count(size, many), expected)

    def test_sure_count_of_5_and_6_people(self):
        for size in (5, 6):
            shortest = [
                min(chain_length(deputies, person) for person in range(size)) for deputies in all_deputies(size)]
            for many in range(size + 1):
                self.same(sure_count(size, many), len([length for length in shortest if length > many]))

    def test_sure_count_of_many_people(self):
        for size in range(1, 61):
            counts = [sure_count(size, many) for many in range(size + 1)]
            with self.subTest(size=size):
                self.assertEqual({count.__class__ for count in counts}, {int})
                self.same(counts, sorted(counts, reverse=True))
                self.same(counts[:2], [size ** size, (size - 1) ** size])
                self.same(counts[size], 0)
                # All others are named in turn in one round.
                self.same(counts[size - 1], math.factorial(size - 1))
                if size > 2:
                    self.same(counts[2], without_pairs(size))


class AllDeputies(Case):
    def test_fewest_sure(self):
        for size in range(1, 5):
            for deputies in all_deputies(size)[::1 if size < 4 else 3]:
                for many in range(4):
                    good = [repr(pair) for pair in all_fewest(deputies, many)] or ["None"]
                    with self.subTest(deputies=deputies, many=many):
                        self.assertIn(repr(fewest_sure(deputies, many)), good)
                        self.assertEqual(good == ["None"], many >= size)

    def test_shows_fewest_sure(self):
        for size in range(1, 5):
            for deputies in all_deputies(size)[::1 if size < 3 else 9 if size < 4 else 85]:
                for many in range(4):
                    good = all_fewest(deputies, many)
                    fewest = good[0][0] if good else 0
                    others = [(fewest, other) for other in all_deputies(size)[::1 if size < 4 else 5]]
                    others += [(changes + 1, other) for changes, other in good[:9]]
                    self.shows(shows_fewest_sure, (deputies, many), good or [None], others)

    def test_near_values(self):
        for value in near((1, (1, 2, 0))):
            expected = repr(value) == "(1, (1, 2, 0))"
            self.assertIs(shows_fewest_sure((1, 2, -1), 2, value), expected, value)


class Wrong(Case):
    def test_too_many_people(self):
        for deputies in LARGE:
            for many in range(4):
                self.fails(TooMany, fewest_sure, deputies, many, most=4)
                for value in (None, 0, (0, deputies)):
                    self.fails(TooMany, shows_fewest_sure, deputies, many, value, most=4)
            for many in (4, -1, 60, *ODD_VALUES):
                self.fails(BadCount, fewest_sure, deputies, many)
                self.fails(BadCount, shows_fewest_sure, deputies, many, None)

    def test_numbers_at_both_ends(self):
        for size in range(1, 5):
            for many in (4, 5, -1, True, None, "0", (0,)):
                self.fails(BadCount, fewest_sure, (-1,) * size, many)
                self.fails(BadCount, shows_fewest_sure, (-1,) * size, many, None)
            for many in (size + 1, -1, False, None):
                self.fails(BadCount, spread, (-1,) * size, many)
                self.fails(BadCount, both_out, (-1,) * size, many, 0, 0)
        for size in (1, 3, 59, 60):
            for many in (-1, size + 1, 61, True, None, "1", (1,)):
                self.fails(BadCount, sure_count, size, many)
        for size in (0, 61, -1, True, None, "1", (1,)):
            self.fails(BadCount, sure_count, size, 0)

    def test_people(self):
        for person in (2, -1, True, None, "0", (0,)):
            self.fails(BadPerson, both_out, (1, 0), 1, person, 0)
            self.fails(BadPerson, both_out, (1, 0), 1, 0, person)
            self.fails(BadCount, both_out, (1, 0), 3, person, 0)


if __name__ == "__main__":
    unittest.main()
