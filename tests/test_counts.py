"""Numbers of namings (point 14)."""

import unittest

from firstthere.counts import chain_total, mean_chain, naming_count, office_count, ring_count
from firstthere.errors import BadCount
from tests.support import OFFICE, Case, all_deputies, as_ratio

MOST = 60


def walk(deputies, person):
    """Those whom one meets from the person on, till nobody is named or somebody comes again, and who is named last."""
    met = [person]
    while deputies[met[-1]] != OFFICE and deputies[met[-1]] not in met:
        met.append(deputies[met[-1]])
    return met, deputies[met[-1]]


def walks(size):
    return [[walk(deputies, person) for person in range(size)] for deputies in all_deputies(size)]


class WorkedOut(Case):
    def test_one_person(self):
        self.same([naming_count(1), office_count(1, 0), office_count(1, 1)], [1, 0, 1])
        self.same([ring_count(1, 0), ring_count(1, 1), chain_total(1, 1), mean_chain(1)], [1, 0, 1, (1, 1)])

    def test_two_people(self):
        self.same(naming_count(2), 4)
        self.same([office_count(2, many) for many in (0, 1, 2)], [1, 2, 1])
        self.same([ring_count(2, many) for many in (0, 1, 2)], [3, 0, 1])
        self.same([chain_total(2, length) for length in (1, 2)], [4, 4])

    def test_three_people(self):
        self.same([office_count(3, many) for many in range(4)], [8, 12, 6, 1])
        self.same([ring_count(3, many) for many in range(4)], [16, 0, 9, 2])
        self.same([chain_total(3, length) for length in (1, 2, 3)], [27, 36, 18])
        self.same(mean_chain(3), (17, 9))

    def test_many_people(self):
        self.same(naming_count(10), 10000000000)
        self.same(naming_count(MOST), MOST ** MOST)
        self.same(office_count(MOST, MOST), 1)
        self.same(office_count(MOST, 0), 59 ** 60)
        self.same(ring_count(MOST, 0), 61 ** 59)
        self.same(ring_count(MOST, 1), 0)
        self.same(ring_count(10, 10), 1334961)
        self.same(chain_total(MOST, 1), MOST ** MOST)


class AllDeputies(Case):
    def test_all_numbers_up_to_6_people(self):
        for size in range(1, 7):
            known = walks(size)
            offices = [len([walked for walked in each if walked[1] == OFFICE and len(walked[0]) == 1])
                       for each in known]
            rings = [len([walked for walked in each if walked[0][0] == walked[1]]) for each in known]
            lengths = [len(met) for each in known for met, _ in each]
            with self.subTest(size=size):
                self.same(naming_count(size), len(known))
                for many in range(size + 1):
                    self.same(office_count(size, many), offices.count(many))
                    self.same(ring_count(size, many), rings.count(many))
                for length in range(1, size + 1):
                    self.same(chain_total(size, length), lengths.count(length))
                self.same(mean_chain(size), as_ratio(sum(lengths), len(lengths)))


class ManyPeople(Case):
    def test_sums(self):
        for size in range(1, MOST + 1):
            with self.subTest(size=size):
                self.same(naming_count(size), size ** size)
                self.same(sum(office_count(size, many) for many in range(size + 1)), size ** size)
                self.same(sum(ring_count(size, many) for many in range(size + 1)), size ** size)
                totals = [chain_total(size, length) for length in range(1, size + 1)]
                self.same(sum(totals), size * size ** size)
                people = sum(length * total for length, total in enumerate(totals, start=1))
                self.same(mean_chain(size), as_ratio(people, sum(totals)))

    def test_nobody_alone_is_in_a_round(self):
        for size in range(1, MOST + 1):
            self.same(ring_count(size, 1), 0)
            self.same(office_count(size, size), 1)
            self.assertEqual([many for many in range(size + 1) if ring_count(size, many) < 0], [])

    def test_all_in_rounds(self):
        # All orders have rounds in which each one is behind another, or some that stand alone.
        for size in range(2, MOST + 1):
            self.same(ring_count(size, size), (size - 1) * (ring_all(size - 1) + ring_all(size - 2)))


def ring_all(size):
    return ring_count(size, size) if size else 1


class Wrong(Case):
    def test_sizes(self):
        for size in (0, -1, 61, 100, True, False, None, "6", (6,), [6], {6: 6}, 2 ** 70):
            self.fails(BadCount, naming_count, size)
            self.fails(BadCount, mean_chain, size)
            for call in (office_count, ring_count, chain_total):
                for many in (0, 1, 60, None):
                    self.fails(BadCount, call, size, many)

    def test_second_numbers(self):
        for size in (1, 2, 6, 59, 60):
            for many in (-1, size + 1, 61, True, False, None, "1", (1,), [1]):
                for call in (office_count, ring_count, chain_total):
                    self.fails(BadCount, call, size, many)
            self.fails(BadCount, chain_total, size, 0)


if __name__ == "__main__":
    unittest.main()
