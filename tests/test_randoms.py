"""Random namings (point 20)."""

import fractions
import math
import unittest

from firstthere.counts import mean_chain
from firstthere.errors import BadCount
from firstthere.randoms import length_chances, random_hold, random_loads, random_out
from tests.support import OFFICE, Case, all_deputies, all_lots, as_ratio

MOST = 60


def holder_after(deputies, gone, person):
    """The holder of the person's duty: at most once past each one there are people."""
    at = person
    for _ in deputies:
        if at == OFFICE or at not in gone:
            return at
        at = deputies[at]
    return at if at not in gone else OFFICE


def chain_length(deputies, person):
    met = [person]
    while deputies[met[-1]] not in (OFFICE, *met):
        met.append(deputies[met[-1]])
    return len(met)


def number(ratio):
    return fractions.Fraction(*ratio)


class WorkedOut(Case):
    def test_random_out(self):
        self.same(random_out(1, 1), (1, 1))
        self.same([random_out(2, many) for many in (1, 2)], [(1, 2), (1, 1)])
        self.same([random_out(3, many) for many in (1, 2, 3)], [(1, 3), (5, 9), (1, 1)])
        self.same(random_out(60, 1), (1, 60))
        self.same(random_out(60, 60), (1, 1))

    def test_random_hold(self):
        self.same(random_hold(2, 1), (1, 2))
        self.same([random_hold(3, many) for many in (1, 2)], [(1, 3), (4, 9)])
        self.same(random_hold(60, 1), (1, 60))

    def test_random_loads(self):
        self.same([random_loads(1, many) for many in (0, 1)], [((1, 1), (0, 1)), ((0, 1), (1, 1))])
        self.same([random_loads(3, many) for many in range(4)],
                  [((1, 1), (0, 1)), ((4, 3), (1, 3)), ((17, 9), (10, 9)), ((0, 1), (3, 1))])
        self.same(random_loads(60, 60), ((0, 1), (60, 1)))
        self.same(random_loads(60, 0), ((1, 1), (0, 1)))

    def test_length_chances(self):
        self.same(length_chances(1), ((1, 1),))
        self.same(length_chances(3), ((1, 3), (4, 9), (2, 9)))
        self.same(length_chances(60)[0], (1, 60))
        self.same(len(length_chances(60)), 60)


class AllDeputies(Case):
    def test_one_and_the_same_for_all_who_left_and_all_who_are_there(self):
        for size in range(1, 5):
            for gone in all_lots(size)[1:]:
                for person in gone:
                    held = [holder_after(deputies, gone, person) for deputies in all_deputies(size)]
                    with self.subTest(size=size, gone=gone, person=person):
                        self.same(random_out(size, len(gone)), as_ratio(held.count(OFFICE), len(held)))
                        for there in range(size):
                            if there not in gone:
                                expected = as_ratio(held.count(there), len(held))
                                self.same(random_hold(size, len(gone)), expected)

    def test_5_and_6_people(self):
        for size in (5, 6):
            known = all_deputies(size)
            for many in range(1, size + 1):
                held = [holder_after(deputies, tuple(range(many)), 0) for deputies in known]
                self.same(random_out(size, many), as_ratio(held.count(OFFICE), len(known)))
                if many < size:
                    self.same(random_hold(size, many), as_ratio(held.count(size - 1), len(known)))

    def test_random_loads(self):
        for size in range(1, 6):
            known = all_deputies(size)
            for many in range(size + 1):
                gone = tuple(range(many))
                held = [holder_after(deputies, gone, duty) for deputies in known for duty in range(size)]
                there = as_ratio(held.count(size - 1), len(known)) if many < size else (0, 1)
                with self.subTest(size=size, many=many):
                    self.same(random_loads(size, many), (there, as_ratio(held.count(OFFICE), len(known))))

    def test_length_chances(self):
        for size in range(1, 7):
            lengths = [chain_length(deputies, 0) for deputies in all_deputies(size)]
            expected = tuple(as_ratio(lengths.count(many), len(lengths)) for many in range(1, size + 1))
            self.same(length_chances(size), expected)


class ManyPeople(Case):
    def test_chances_add_up(self):
        for size in range(1, MOST + 1):
            with self.subTest(size=size):
                chances = [number(chance) for chance in length_chances(size)]
                self.same(len(chances), size)
                self.same(sum(chances), fractions.Fraction(1))
                mean = sum(length * chance for length, chance in enumerate(chances, start=1))
                self.same(mean, number(mean_chain(size)))
                for many in range(1, size + 1):
                    out = number(random_out(size, many))
                    hold = number(random_hold(size, many)) if many < size else 0
                    self.same(out + (size - many) * hold, fractions.Fraction(1))

    def test_by_the_lengths_of_chains(self):
        # The duty is out if the others of the chain are all among the others who left.
        for size in (1, 2, 7, 30, 59, 60):
            chances = [number(chance) for chance in length_chances(size)]
            for many in range(1, size + 1):
                parts = [chance * fractions.Fraction(math.comb(many - 1, others), math.comb(size - 1, others))
                         for others, chance in enumerate(chances)]
                self.same(number(random_out(size, many)), sum(parts))

    def test_loads_add_up_to_all_duties(self):
        for size in range(1, MOST + 1):
            for many in range(size + 1):
                there, office = random_loads(size, many)
                self.same((size - many) * number(there) + number(office), fractions.Fraction(size))
                if many:
                    self.same(number(office), many * number(random_out(size, many)))
                if 0 < many < size:
                    self.same(number(there), 1 + many * number(random_hold(size, many)))

    def test_all_are_in_lowest_terms(self):
        for size in (1, 2, 3, 12, 48, 60):
            found = [*length_chances(size)]
            for many in range(1, size + 1):
                found += [random_out(size, many), *random_loads(size, many), *random_loads(size, 0)]
                found += [random_hold(size, many)] if many < size else []
            for top, bottom in found:
                self.same((top, bottom), as_ratio(top, bottom))


class Wrong(Case):
    def test_sizes(self):
        for size in (0, -1, 61, 100, True, False, None, "6", (6,), [6], {6: 6}):
            self.fails(BadCount, length_chances, size)
            for call in (random_out, random_hold, random_loads):
                for many in (0, 1, None):
                    self.fails(BadCount, call, size, many)

    def test_second_numbers(self):
        for size in (1, 2, 6, 59, 60):
            for many in (-1, size + 1, 61, True, False, None, "1", (1,), [1]):
                for call in (random_out, random_hold, random_loads):
                    self.fails(BadCount, call, size, many)
            self.fails(BadCount, random_out, size, 0)
            self.fails(BadCount, random_hold, size, 0)
            self.fails(BadCount, random_hold, size, size)


if __name__ == "__main__":
    unittest.main()
