"""Orders once more (point 21)."""

import fractions
import math
import unittest

from firstthere.errors import BadCount, BadPerson, BadWeights
from firstthere.meeting import (
    ever_orders, last_orders, likely_order, load_chances, meeting_orders, office_chances, place_chances)
from tests.support import (
    LARGE, OFFICE, Case, all_lots, as_ratio, held_when, rows_in_time, some_deputies, whole_orders)

CHAIN = (1, 2, 3, 4, 5, -1)
RING = (1, 2, 3, 4, 5, 0)
STAR = (5, 5, 5, 5, 5, -1)
ALONE = (-1,) * 6

SOME_WEIGHTS = (
    (1,), (60,), (1, 1), (1, 2), (60, 1), (3, 1, 2), (2, 2, 2), (60, 60, 1), (1, 5, 5, 5), (4, 3, 2, 1), (7, 60, 7, 60),
    (1, 2, 3, 4, 5), (5, 5, 1, 5, 60), (1, 1, 1, 1, 1, 1), (60, 60, 60, 60, 60, 60), (1, 60, 2, 59, 3, 58),
    (2, 1, 2, 1, 2, 1), (6, 5, 4, 3, 2, 1),
)


def chance_of(weights, order):
    """The chance of a whole order."""
    chance = fractions.Fraction(1)
    for at, person in enumerate(order):
        chance *= fractions.Fraction(weights[person], sum(weights[one] for one in order[at:]))
    return chance


def as_pair(number):
    return (number.numerator, number.denominator)


def as_chances(numbers, most):
    return tuple(as_ratio(numbers.count(number), len(numbers)) for number in range(most + 1))


class WorkedOut(Case):
    def test_ever_orders(self):
        self.same([ever_orders((-1,), 0, other) for other in (0, -1)], [1, 1])
        self.same([ever_orders(CHAIN, 0, other) for other in range(-1, 6)], [720, 720, 360, 240, 180, 144, 120])
        self.same([ever_orders(CHAIN, 4, other) for other in range(-1, 6)], [720, 0, 0, 0, 0, 720, 360])

    def test_last_orders(self):
        self.same(last_orders((-1,), 0, 0), 1)
        self.same([last_orders(CHAIN, 3, other) for other in range(6)], [0, 0, 0, 240, 240, 240])
        self.same([last_orders(RING, 3, other) for other in range(6)], [120] * 6)
        self.same([last_orders(ALONE, 3, other) for other in range(6)], [0, 0, 0, 720, 0, 0])

    def test_meeting_orders(self):
        self.same(meeting_orders((-1,), 0, 0), 1)
        self.same([meeting_orders(deputies, 0, 1) for deputies in ((-1, -1), (1, -1), (1, 0))], [0, 1, 2])
        self.same([meeting_orders(STAR, 0, other) for other in range(6)], [720, 240, 240, 240, 240, 360])
        self.same([meeting_orders(CHAIN, 0, other) for other in range(6)], [720, 600, 480, 360, 240, 120])

    def test_load_chances(self):
        self.same(load_chances((-1,), 0), ((0, 1), (1, 1)))
        self.same(load_chances(ALONE, 2), ((0, 1), (1, 1), (0, 1), (0, 1), (0, 1), (0, 1), (0, 1)))
        self.same(load_chances(STAR, 5), ((0, 1),) + ((1, 6),) * 6)
        self.same(load_chances(CHAIN, 1), ((0, 1), (1, 2), (1, 2)) + ((0, 1),) * 4)

    def test_office_chances(self):
        self.same([office_chances((-1,), many) for many in (0, 1)], [((1, 1), (0, 1)), ((0, 1), (1, 1))])
        self.same(office_chances(STAR, 1), ((5, 6), (1, 6), (0, 1), (0, 1), (0, 1), (0, 1), (0, 1)))
        self.same(office_chances(RING, 5), ((1, 1),) + ((0, 1),) * 6)
        self.same(office_chances(ALONE, 4), ((0, 1),) * 4 + ((1, 1), (0, 1), (0, 1)))

    def test_place_chances(self):
        self.same(place_chances((7,), 0), ((1, 1),))
        self.same(place_chances((1, 2), 1), ((2, 3), (1, 3)))
        self.same(place_chances((60,) * 6, 3), ((1, 6),) * 6)
        self.same(place_chances((1, 2, 3), 0), ((1, 6), (1, 4), (7, 12)))

    def test_likely_order(self):
        self.same([likely_order((5,)), likely_order((1, 1)), likely_order((1, 2))], [(0,), (0, 1), (1, 0)])
        self.same(likely_order((3, 60, 3, 1, 60, 3)), (1, 4, 0, 2, 5, 3))
        self.same(likely_order((1, 2, 3, 4, 5, 6)), (5, 4, 3, 2, 1, 0))


class AllOrders(Case):
    def test_ever_and_last_orders(self):
        for deputies in some_deputies():
            size = len(deputies)
            for person in range(size):
                columns = [[row[person] for row in rows] for _, rows in rows_in_time(deputies)]
                lasts = [[by for by in held if by != OFFICE][-1] for held in columns]
                for other in range(OFFICE, size):
                    with self.subTest(deputies=deputies, person=person, other=other):
                        ever = [held for held in columns if other in held]
                        self.same(ever_orders(deputies, person, other), len(ever))
                        if other != OFFICE:
                            self.same(last_orders(deputies, person, other), lasts.count(other))

    def test_meeting_orders(self):
        for deputies in some_deputies():
            size = len(deputies)
            for one in range(size):
                for other in range(size if size < 5 else one + 2 if one < 4 else 1):
                    met = 0
                    for _, rows in rows_in_time(deputies):
                        met += any(held[one] == held[other] != OFFICE for held in rows)
                    with self.subTest(deputies=deputies, one=one, other=other):
                        self.same(meeting_orders(deputies, one, other), met)

    def test_load_chances(self):
        for deputies in some_deputies():
            for person in range(len(deputies)):
                loads = []
                for order, rows in rows_in_time(deputies):
                    own = [held.count(person) for held in rows]
                    loads.append(own[order.index(person)])
                    self.assertEqual(max(own), loads[-1])
                with self.subTest(deputies=deputies, person=person):
                    self.same(load_chances(deputies, person), as_chances(loads, len(deputies)))

    def test_office_chances(self):
        for deputies in some_deputies():
            for many in range(len(deputies) + 1):
                loads = [held_when(deputies, lot).count(OFFICE) for lot in all_lots(len(deputies)) if len(lot) == many]
                with self.subTest(deputies=deputies, many=many):
                    self.same(office_chances(deputies, many), as_chances(loads, len(deputies)))

    def test_the_office_with_nobody_and_with_everybody_gone(self):
        for deputies in LARGE:
            size = len(deputies)
            self.same(office_chances(deputies, 0), ((1, 1),) + ((0, 1),) * size)
            self.same(office_chances(deputies, size), ((0, 1),) * size + ((1, 1),))

    def test_a_person_and_itself(self):
        for deputies in LARGE:
            orders = math.factorial(len(deputies))
            for person in range(len(deputies)):
                self.same(ever_orders(deputies, person, person), orders)
                self.same(ever_orders(deputies, person, OFFICE), orders)
                self.same(meeting_orders(deputies, person, person), orders)
                self.assertGreater(last_orders(deputies, person, person), 0)


class Weights(Case):
    def test_place_chances(self):
        for weights in SOME_WEIGHTS:
            size = len(weights)
            chances = {order: chance_of(weights, order) for order in whole_orders(size)}
            for person in range(size):
                found = [fractions.Fraction(0)] * size
                for order, chance in chances.items():
                    found[order.index(person)] += chance
                with self.subTest(weights=weights, person=person):
                    self.same(place_chances(weights, person), tuple(map(as_pair, found)))
                    self.same(sum(found), fractions.Fraction(1))

    def test_likely_order(self):
        for weights in SOME_WEIGHTS:
            chances = {order: chance_of(weights, order) for order in whole_orders(len(weights))}
            most = max(chances.values())
            self.same(likely_order(weights), min(order for order, chance in chances.items() if chance == most))


class Wrong(Case):
    def test_the_office_where_a_person_is_asked(self):
        self.fails(BadPerson, ever_orders, (1, 0), -1, 0)
        self.fails(BadPerson, last_orders, (1, 0), -1, 0)
        self.fails(BadPerson, last_orders, (1, 0), 0, -1)
        self.fails(BadPerson, meeting_orders, (1, 0), -1, 0)
        self.fails(BadPerson, meeting_orders, (1, 0), 0, -1)
        self.fails(BadPerson, load_chances, (1, 0), -1)
        self.fails(BadPerson, place_chances, (1, 1), -1)
        self.fails(BadPerson, place_chances, (1, 1), 2)

    def test_weights_at_both_ends(self):
        for weights in ((), (0,), (61,), (1, 0), (1,) * 7, (True,), ("1",), [1], 1, None):
            self.fails(BadWeights, place_chances, weights, 0)
            self.fails(BadWeights, likely_order, weights)

    def test_counts_just_outside(self):
        for size in range(1, 7):
            for many in (-1, size + 1, True, None, "1", (1,)):
                self.fails(BadCount, office_chances, (-1,) * size, many)


if __name__ == "__main__":
    unittest.main()
