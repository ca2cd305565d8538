"""Rounds, and where the chains end (point 3)."""

import unittest

from firstthere.rings import behind, chain_lengths, rounds, steps_to_end, to_office
from tests.support import LARGE, OFFICE, Case, some_deputies


def ways(deputies):
    """For each person, the people whom it meets in as many steps as there are people, maybe again."""
    found = []
    for person in range(len(deputies)):
        way = [person]
        while way[-1] != OFFICE and len(way) <= len(deputies):
            way.append(deputies[way[-1]])
        found.append(way)
    return found


class WorkedOut(Case):
    def test_one_person(self):
        self.same(rounds((-1,)), ())
        self.same(to_office((-1,)), (0,))
        self.same(chain_lengths((-1,)), (1,))
        self.same(steps_to_end((-1,)), (0,))
        self.same(behind((-1,), 0), (0,))

    def test_a_round_with_a_chain_into_it(self):
        deputies = (1, 2, 0, 2, 3, -1)
        self.same(rounds(deputies), ((0, 1, 2),))
        self.same(to_office(deputies), (5,))
        self.same(chain_lengths(deputies), (3, 3, 3, 4, 5, 1))
        self.same(steps_to_end(deputies), (0, 0, 0, 1, 2, 0))
        self.same(behind(deputies, 2), (0, 1, 2, 3, 4))
        self.same(behind(deputies, 3), (3, 4))
        self.same(behind(deputies, 5), (5,))

    def test_three_rounds(self):
        deputies = (5, 2, 1, 4, 3, 0)
        self.same(rounds(deputies), ((0, 5), (1, 2), (3, 4)))
        self.same(to_office(deputies), ())
        self.same(chain_lengths(deputies), (2,) * 6)
        self.same(steps_to_end(deputies), (0,) * 6)
        self.same(behind(deputies, 4), (3, 4))

    def test_one_round_of_all(self):
        self.same(rounds((1, 2, 3, 4, 5, 0)), ((0, 1, 2, 3, 4, 5),))
        self.same(rounds((3, 2, 0, 1)), ((0, 1, 2, 3),))

    def test_one_chain_of_all(self):
        deputies = (1, 2, 3, 4, 5, -1)
        self.same(rounds(deputies), ())
        self.same(to_office(deputies), (0, 1, 2, 3, 4, 5))
        self.same(chain_lengths(deputies), (6, 5, 4, 3, 2, 1))
        self.same(steps_to_end(deputies), (5, 4, 3, 2, 1, 0))
        self.same(behind(deputies, 5), (0, 1, 2, 3, 4, 5))
        self.same(behind(deputies, 0), (0,))

    def test_nobody_names(self):
        deputies = (-1,) * 5
        self.same(rounds(deputies), ())
        self.same(to_office(deputies), (0, 1, 2, 3, 4))
        self.same(chain_lengths(deputies), (1,) * 5)
        self.same(steps_to_end(deputies), (0,) * 5)


class ByTheWays(Case):
    def test_all(self):
        for deputies in some_deputies():
            way_of = ways(deputies)
            people = range(len(deputies))
            met = [set(way) - {OFFICE} for way in way_of]
            ringed = [person in way_of[person][1:] for person in people]
            with self.subTest(deputies=deputies):
                rings = {tuple(sorted(met[person])) for person in people if ringed[person]}
                self.same(rounds(deputies), tuple(sorted(rings)))
                ending = tuple(person for person in people if way_of[person][-1] == OFFICE)
                self.same(to_office(deputies), ending)
                self.same(chain_lengths(deputies), tuple(len(met[person]) for person in people))
                ends = [ringed[person] or deputies[person] == OFFICE for person in people]
                steps = tuple([ends[one] for one in way_of[person] if one != OFFICE].index(True) for person in people)
                self.same(steps_to_end(deputies), steps)
                for person in people:
                    self.same(behind(deputies, person), tuple(one for one in people if person in met[one]))

    def test_large_ones_have_rounds_and_ends(self):
        self.assertTrue(any(rounds(deputies) and to_office(deputies) for deputies in LARGE))
        self.assertTrue(any(max(steps_to_end(deputies)) > 1 and rounds(deputies) for deputies in LARGE))


if __name__ == "__main__":
    unittest.main()
