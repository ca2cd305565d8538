"""By weights (point 7)."""

import itertools
import unittest

from firstthere.chances import ever_chance, hold_chance, mean_handings
from firstthere.errors import BadCount, BadLot, BadOrder, BadPerson, BadWeights
from firstthere.weights import (
    ahead_chance, ever_chance_by, hold_chances_by, last_chances, lot_chance, mean_handings_by, order_chance)
from tests.support import (
    LARGE, OFFICE, Case, all_but, all_lots, all_orders, as_ratio, chance_of_each, chance_that, few_deputies,
    rows_in_time, some_deputies, without_repeats)

SOME_WEIGHTS = (
    (1,), (60,), (17,), (1, 1), (1, 60), (60, 1), (7, 3), (1, 2, 3), (60, 60, 60), (1, 60, 1), (5, 2, 9),
    (1, 2, 3, 4), (60, 1, 1, 60), (6, 10, 15, 30), (1, 1, 2, 3, 5), (60, 59, 58, 57, 1), (1, 2, 4, 8, 16, 32),
    (60, 1, 7, 7, 12, 31),
)


def drawn_by_tickets(weights, order):
    """The chance that these leave first if all draw tickets, as many for each as its weight, all rows alike."""
    tickets = [person for person, weight in enumerate(weights) for _ in range(weight)]
    rows = list(itertools.permutations(tickets))
    first = [tuple(dict.fromkeys(row))[:len(order)] for row in rows]
    return as_ratio(first.count(order), len(rows))


def weights_for(size):
    """Weights to try with deputies of a size; fewer for six people, who have so many whole orders."""
    return [weights for weights in SOME_WEIGHTS if len(weights) == size][-2 if size < 6 else -1:]


class WorkedOut(Case):
    def test_order_chance(self):
        self.same([order_chance((1,), ()), order_chance((60,), (0,))], [(1, 1), (1, 1)])
        self.same([order_chance((1, 60), (0,)), order_chance((1, 60), (1,))], [(1, 61), (60, 61)])
        self.same([order_chance((1, 60), (0, 1)), order_chance((1, 60), (1, 0))], [(1, 61), (60, 61)])
        self.same(order_chance((1, 2, 3), (2, 0)), (1, 6))
        self.same(order_chance((1, 2, 3), (1, 0, 2)), (1, 12))
        self.same(order_chance((60,) * 6, (5, 0, 3)), (1, 120))
        self.same(order_chance((60,) * 6, (5, 0, 3, 4, 2, 1)), (1, 720))
        self.same(order_chance((1, 2, 4, 8, 16, 32), (0, 1, 2)), (1, 29295))

    def test_ahead_chance(self):
        self.same(ahead_chance((9,), (), 0), (1, 1))
        self.same(ahead_chance((1, 60), (1,), 0), (60, 61))
        self.same(ahead_chance((1, 60), (0,), 1), (1, 61))
        self.same(ahead_chance((1, 2, 3), (0, 1), 2), (3, 20))
        self.same(ahead_chance((1, 2, 3), (2,), 1), (3, 5))
        self.same(ahead_chance((5,) * 6, (0, 1, 2, 3, 4), 5), (1, 6))
        self.same(ahead_chance((5,) * 6, (0, 2, 4), 5), (1, 4))

    def test_last_chances(self):
        self.same(last_chances((60,)), ((1, 1),))
        self.same(last_chances((1, 60)), ((60, 61), (1, 61)))
        self.same(last_chances((7,) * 6), ((1, 6),) * 6)
        self.same(last_chances((1, 2, 3)), ((7, 12), (4, 15), (3, 20)))

    def test_lot_chance(self):
        self.same([lot_chance((3,), ()), lot_chance((3,), (0,))], [(1, 1), (1, 1)])
        self.same([lot_chance((1, 2, 3), (0,)), lot_chance((1, 2, 3), (0, 1))], [(1, 6), (3, 20)])
        self.same([lot_chance((1, 2, 3), (1, 2)), lot_chance((1, 2, 3), (0, 1, 2))], [(7, 12), (1, 1)])
        self.same(lot_chance((9,) * 6, (0, 3, 5)), (1, 20))

    def test_with_deputies(self):
        deputies, weights = (1, 2, -1), (1, 2, 3)
        self.same([ever_chance_by(deputies, weights, 0, other) for other in (0, 1, 2, -1)],
                  [(1, 1), (1, 3), (3, 20), (1, 1)])
        self.same([ever_chance_by(deputies, weights, 2, other) for other in (0, 1, 2)], [(0, 1), (0, 1), (1, 1)])
        self.same(hold_chances_by(deputies, weights, 0, 0), ((1, 1), (0, 1), (0, 1), (0, 1)))
        self.same(hold_chances_by(deputies, weights, 1, 0), ((5, 6), (1, 6), (0, 1), (0, 1)))
        self.same(hold_chances_by(deputies, weights, 2, 0), ((7, 12), (4, 15), (3, 20), (0, 1)))
        self.same(hold_chances_by(deputies, weights, 2, 1), ((0, 1), (4, 15), (3, 20), (7, 12)))
        self.same(hold_chances_by(deputies, weights, 3, 1), ((0, 1), (0, 1), (0, 1), (1, 1)))
        self.same(mean_handings_by(deputies, weights), (233, 60))
        self.same(mean_handings_by((-1,) * 6, (1, 60, 2, 3, 4, 5)), (6, 1))
        self.same(mean_handings_by((1, 0), (1, 60)), (3, 1))


class AllWholeOrders(Case):
    def test_they_are_all(self):
        for weights in SOME_WEIGHTS:
            self.same(chance_that(weights, lambda order: True), (1, 1))

    def test_order_chance(self):
        for weights in SOME_WEIGHTS:
            orders = all_orders(len(weights))
            for order in orders if len(weights) < 5 else orders[::43] + orders[-2:]:
                with self.subTest(weights=weights, order=order):
                    expected = chance_that(weights, lambda whole: whole[:len(order)] == order)
                    self.same(order_chance(weights, order), expected)

    def test_order_chance_by_tickets(self):
        for weights in ((1,), (3,), (1, 1), (1, 2), (4, 2), (2, 1, 2), (1, 3, 1), (1, 1, 1, 2)):
            for order in all_orders(len(weights)):
                with self.subTest(weights=weights, order=order):
                    self.same(order_chance(weights, order), drawn_by_tickets(weights, order))

    def test_ahead_chance(self):
        for weights in SOME_WEIGHTS:
            for lot in all_lots(len(weights)):
                for person in all_but(len(weights), *lot):
                    with self.subTest(weights=weights, lot=lot, person=person):
                        expected = chance_that(weights, lambda order: set(lot) <= set(order[:order.index(person)]))
                        self.same(ahead_chance(weights, lot, person), expected)

    def test_last_chances(self):
        for weights in SOME_WEIGHTS:
            expected = [chance_that(weights, lambda order: order[-1] == one) for one in range(len(weights))]
            with self.subTest(weights=weights):
                self.same(last_chances(weights), tuple(expected))

    def test_lot_chance(self):
        for weights in SOME_WEIGHTS:
            for lot in all_lots(len(weights)):
                with self.subTest(weights=weights, lot=lot):
                    expected = chance_that(weights, lambda order: set(order[:len(lot)]) == set(lot))
                    self.same(lot_chance(weights, lot), expected)


class WithDeputies(Case):
    def cases(self):
        """Deputies and weights, with the whole orders: of each, the holders in time and the chance."""
        for deputies in few_deputies():
            for weights in weights_for(len(deputies)):
                chances = chance_of_each(weights)
                yield deputies, weights, [(held, chances[order]) for order, held in rows_in_time(deputies)]

    def test_ever_chance_by(self):
        for deputies, weights, rows in self.cases():
            for person in range(len(deputies)):
                chances = dict.fromkeys((*range(len(deputies)), OFFICE), 0)
                for held, chance in rows:
                    for one in {row[person] for row in held}:
                        chances[one] += chance
                for other, expected in chances.items():
                    with self.subTest(deputies=deputies, weights=weights, person=person, other=other):
                        self.same(ever_chance_by(deputies, weights, person, other), as_ratio(expected))

    def test_hold_chances_by(self):
        for deputies, weights, rows in self.cases():
            for many in range(len(deputies) + 1):
                for person in range(len(deputies)):
                    chances = dict.fromkeys((*range(len(deputies)), OFFICE), 0)
                    for held, chance in rows:
                        chances[held[many][person]] += chance
                    with self.subTest(deputies=deputies, weights=weights, many=many, person=person):
                        expected = tuple(as_ratio(chance) for chance in chances.values())
                        self.same(hold_chances_by(deputies, weights, many, person), expected)

    def test_mean_handings_by(self):
        for deputies, weights, rows in self.cases():
            mean = 0
            for held, chance in rows:
                mean += chance * sum(len(without_repeats(duty)) - 1 for duty in zip(*held))
            with self.subTest(deputies=deputies, weights=weights):
                self.same(mean_handings_by(deputies, weights), as_ratio(mean))

    def test_alike_weights_are_as_no_weights(self):
        for deputies in LARGE + tuple(some_deputies()[::11]):
            for weight in (1, 60):
                weights = (weight,) * len(deputies)
                self.same(mean_handings_by(deputies, weights), mean_handings(deputies))
                for person in range(len(deputies)):
                    for one in range(OFFICE, len(deputies)):
                        expected = ever_chance(deputies, person, one)
                        self.same(ever_chance_by(deputies, weights, person, one), expected)
                    for many in range(len(deputies) + 1):
                        each = (*range(len(deputies)), OFFICE)
                        expected = tuple(hold_chance(deputies, many, person, one) for one in each)
                        self.same(hold_chances_by(deputies, weights, many, person), expected)


class Wrong(Case):
    def test_a_person_of_the_lot(self):
        for weights in SOME_WEIGHTS:
            for lot in all_lots(len(weights)):
                for person in lot:
                    self.fails(BadPerson, ahead_chance, weights, lot, person)
        self.fails(BadLot, ahead_chance, (1, 2), (1, 0), 0)

    def test_weights_at_both_ends(self):
        for weights in ((0,), (61,), (0, 1), (1, 61), (60, 61), (True, 1), (1,) * 7, ()):
            self.fails(BadWeights, order_chance, weights, ())
            self.fails(BadWeights, ahead_chance, weights, (), 0)
            self.fails(BadWeights, last_chances, weights)
            self.fails(BadWeights, lot_chance, weights, ())

    def test_orders_and_lots(self):
        for order in ((0, 0), (2,), (0, 1, 0), (-1,), [0], (True,), "0", None):
            self.fails(BadOrder, order_chance, (1, 2), order)
        for lot in ((1, 0), (0, 0), (2,), [0], (False,)):
            self.fails(BadLot, lot_chance, (1, 2), lot)

    def test_as_many_weights_as_people(self):
        for weights in ((1,), (1, 1, 1), (0, 1), (1, 61), [1, 1]):
            self.fails(BadWeights, ever_chance_by, (1, 0), weights, 0, 0)
            self.fails(BadWeights, hold_chances_by, (1, 0), weights, 0, 0)
            self.fails(BadWeights, mean_handings_by, (1, 0), weights)

    def test_counts_just_outside(self):
        for many in (-1, 3, True, None):
            self.fails(BadCount, hold_chances_by, (1, 0), (1, 2), many, 0)
        self.fails(BadPerson, hold_chances_by, (1, 0), (1, 2), 0, -1)
        self.fails(BadPerson, ever_chance_by, (1, 0), (1, 2), -1, 0)


if __name__ == "__main__":
    unittest.main()
