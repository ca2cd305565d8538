"""The most handings, new names, and chances by weights in whole orders (point 32)."""

import fractions
import itertools
import unittest

from firstthere.chances import handing_chances
from firstthere.errors import BadDeputies, BadPerson, BadTold, BadWeights
from firstthere.shapes import (
    alike, handing_chances_by, most_handings, own_names, shape, shows_most_handings, told_chance)
from firstthere.weights import ever_chance_by, mean_handings_by
from tests.support import (
    LARGE, ODD_VALUES, OFFICE, Case, all_deputies, chance_that, few_deputies, near, rows_in_time, whole_orders,
    without_repeats)

CHAIN = (1, 2, 3, 4, 5, -1)
RING = (1, 2, 3, 4, 5, 0)
THREE_ROUNDS = (5, 2, 1, 4, 3, 0)

SOME_WEIGHTS = ((1, 60, 7, 1, 60, 2), (60, 60, 60, 60, 60, 60), (5, 4, 3, 2, 1, 6))


def some_weights(size):
    return sorted({weights[:size] for weights in SOME_WEIGHTS[:3 if size < 6 else 1]})


def named_anew(deputies, order):
    """The deputies of the new names: who had this name before names the new name of whom it named."""
    before = [order.index(name) for name in range(len(order))]
    return tuple(OFFICE if deputies[one] == OFFICE else order[deputies[one]] for one in before)


def all_named_anew(deputies):
    return [named_anew(deputies, order) for order in whole_orders(len(deputies))]


def held_in_turn(rows, person):
    return without_repeats([held[person] for held in rows])


def orders_and_counts(deputies):
    """For each whole order, how often all duties together are handed on."""
    people = range(len(deputies))
    return [(sum(len(held_in_turn(rows, one)) - 1 for one in people), order) for order, rows in rows_in_time(deputies)]


def chance_of_told(deputies, weights, told):
    orders = {
        order for order, rows in rows_in_time(deputies) if all(held_in_turn(rows, one) == held for one, held in told)}
    return chance_that(weights, lambda order: order in orders)


def told_of(deputies):
    """Told holders: none, of one person, of some and of all people, such as come and such as do not."""
    size = len(deputies)
    found = {()}
    for _, rows in rows_in_time(deputies)[::1 + len(rows_in_time(deputies)) // 5]:
        whole = tuple((one, held_in_turn(rows, one)) for one in range(size))
        found.update([whole, whole[:1], whole[1:], whole[::2], whole[-1:]])
        found.update([whole[:-1] + ((size - 1, whole[-1][1][:-1] or (OFFICE,)),)])
    return sorted(found) + [((0, (OFFICE,)),), ((size - 1, (size - 1,)),), ((0, tuple(range(size)) + (OFFICE,)),)]


class WorkedOut(Case):
    def test_most_handings(self):
        self.same(most_handings((-1,)), (1, (0,)))
        self.same(most_handings((1, -1)), (3, (0, 1)))
        self.same(most_handings((1, 0))[0], 3)
        self.same(most_handings((-1, -1))[0], 2)
        self.same(most_handings(CHAIN), (21, (0, 1, 2, 3, 4, 5)))
        self.same(most_handings(RING)[0], 21)
        self.same(most_handings(THREE_ROUNDS)[0], 9)

    def test_shows_most_handings(self):
        self.same([shows_most_handings((1, 0), (3, order)) for order in ((0, 1), (1, 0))], [True, True])
        self.same([shows_most_handings((1, -1), (3, order)) for order in ((0, 1), (1, 0))], [True, False])
        self.same(shows_most_handings((1, -1), (2, (1, 0))), False)
        self.same(shows_most_handings((-1, -1), (2, (1, 0))), True)
        self.same(shows_most_handings((-1, -1), (2, (1,))), False)
        self.same(shows_most_handings((-1, -1), (1, (1,))), False)

    def test_shape(self):
        self.same([shape((-1,)), shape((1, 0))], [(-1,), (1, 0)])
        self.same([shape((1, -1)), shape((-1, 0))], [(-1, 0), (-1, 0)])
        self.same(shape((1, 2, 0)), (1, 2, 0))
        self.same(shape((2, 0, 1)), (1, 2, 0))
        self.same(shape((2, -1, 1)), (-1, 0, 1))
        self.same(shape(CHAIN), (-1, 0, 1, 2, 3, 4))
        self.same(shape(THREE_ROUNDS), (1, 0, 3, 2, 5, 4))

    def test_alike(self):
        self.same(alike((1, -1), (-1, 0)), True)
        self.same(alike((1, -1), (1, 0)), False)
        self.same(alike((1, 2, 0), (2, 0, 1)), True)
        self.same(alike((1, 0, 0), (1, 0, 1)), True)
        self.same(alike((1, 0, 0), (1, 2, 0)), False)
        self.same(alike(CHAIN, (-1, 0, 1, 2, 3, 4)), True)
        self.same(alike(CHAIN, RING), False)
        self.same(alike(THREE_ROUNDS, (1, 0, 3, 2, 5, 4)), True)

    def test_own_names(self):
        self.same([own_names(deputies) for deputies in ((-1,), (1, 0), (1, -1), (-1, -1))], [1, 2, 1, 2])
        self.same([own_names(deputies) for deputies in (CHAIN, RING, THREE_ROUNDS, (-1,) * 6)], [1, 6, 48, 720])
        self.same(own_names((5, 5, 5, 5, 5, -1)), 120)

    def test_told_chance(self):
        self.same(told_chance((-1,), (60,), ()), (1, 1))
        self.same(told_chance((-1,), (60,), ((0, (0, -1)),)), (1, 1))
        self.same(told_chance((-1,), (60,), ((0, (0,)),)), (0, 1))
        self.same(told_chance((1, -1), (1, 60), ((0, (0, 1, -1)),)), (1, 61))
        self.same(told_chance((1, -1), (1, 60), ((0, (0, -1)),)), (60, 61))
        self.same(told_chance((1, -1), (1, 60), ((0, (0, -1)), (1, (1, -1)))), (60, 61))
        self.same(told_chance((1, 2, -1), (1, 2, 3), ((0, (0, 1, 2, -1)),)), (1, 15))

    def test_handing_chances_by(self):
        self.same(handing_chances_by((-1,), (60,), 0), ((0, 1), (1, 1)))
        self.same(handing_chances_by((1, -1), (1, 60), 0), ((0, 1), (60, 61), (1, 61)))
        self.same(handing_chances_by((1, -1), (1, 60), 1), ((0, 1), (1, 1)))
        self.same(handing_chances_by((1, 2, 0), (7, 7, 7), 1), ((0, 1), (1, 3), (1, 2), (1, 6)))


class AllOrders(Case):
    def test_most_handings(self):
        for deputies in (*few_deputies()[::2], *LARGE):
            pairs = orders_and_counts(deputies)
            good = [repr(pair) for pair in pairs if pair[0] == max(pairs)[0]]
            with self.subTest(deputies=deputies):
                self.assertIn(repr(most_handings(deputies)), good)

    def test_shows_most_handings(self):
        for deputies in (*few_deputies()[:38:3], *all_deputies(4)[::60]):
            pairs = orders_and_counts(deputies)
            most = max(pairs)[0]
            good = [pair for pair in pairs if pair[0] == most]
            others = pairs + [(most, order) for _, order in pairs] + [(most + 1, good[0][1]), (most - 1, good[0][1])]
            others += [(most, order[:-1]) for _, order in good] + [(most - 1, order[:-1]) for _, order in good]
            self.shows(shows_most_handings, (deputies,), good, others)

    def test_shows_most_handings_of_many_people(self):
        for deputies in (*LARGE[2:6:3], CHAIN, RING):
            pairs = orders_and_counts(deputies)
            most = max(pairs)[0]
            for pair in sorted(pairs)[-4:] + pairs[::300]:
                self.assertIs(shows_most_handings(deputies, pair), pair[0] == most)
            self.assertIs(shows_most_handings(deputies, (most, min(pairs)[1])), False)
            self.assertIs(shows_most_handings(deputies, [*max(pairs)]), False)

    def test_near_values(self):
        for value in near((6, (0, 1, 2))):
            expected = repr(value) == "(6, (0, 1, 2))"
            self.assertIs(shows_most_handings((1, 2, -1), value), expected, value)

    def test_told_chance(self):
        chances = set()
        for deputies in (*few_deputies()[::5], *LARGE[::4]):
            for weights in some_weights(len(deputies)):
                for told in told_of(deputies)[::1 if len(deputies) < 5 else 6]:
                    with self.subTest(deputies=deputies, weights=weights, told=told):
                        expected = chance_of_told(deputies, weights, told)
                        self.same(told_chance(deputies, weights, told), expected)
                        chances.add(expected)
        self.assertLess({(0, 1), (1, 1)}, chances)

    def test_handing_chances_by(self):
        for deputies in (*few_deputies()[::4], *LARGE[::3]):
            for weights in some_weights(len(deputies)):
                for person in range(len(deputies))[::1 if len(deputies) < 6 else 2]:
                    times = {order: len(held_in_turn(rows, person)) - 1 for order, rows in rows_in_time(deputies)}
                    longest = max(len(set(held_in_turn(rows, person))) for _, rows in rows_in_time(deputies)) - 1
                    expected = tuple(
                        chance_that(weights, lambda order, many=many: times[order] == many)
                        for many in range(longest + 1))
                    with self.subTest(deputies=deputies, weights=weights, person=person):
                        self.same(handing_chances_by(deputies, weights, person), expected)

    def test_weights_that_are_alike(self):
        for deputies in (*few_deputies()[::7], *LARGE[::4]):
            for person in range(len(deputies))[::2]:
                same = (60,) * len(deputies)
                self.same(handing_chances_by(deputies, same, person), handing_chances(deputies, person))

    def test_mean_numbers_of_handings(self):
        for deputies in few_deputies()[30::9]:
            size = len(deputies)
            weights = SOME_WEIGHTS[0][:size]
            rows = [handing_chances_by(deputies, weights, person) for person in range(size)]
            mean = sum(times * fractions.Fraction(*chance) for row in rows for times, chance in enumerate(row))
            self.same((mean.numerator, mean.denominator), mean_handings_by(deputies, weights))

    def test_all_ways_to_come_to_somebody(self):
        for deputies in ((1, 2, 0), (1, 2, -1)):
            chance = ever_chance_by(deputies, (1, 2, 3), 0, 2)
            told = [((0, (0, *by, -1)),) for by in ((2,), (1, 2))]
            whole = sum(fractions.Fraction(*told_chance(deputies, (1, 2, 3), one)) for one in told)
            self.same((whole.numerator, whole.denominator), chance)


class AllNames(Case):
    def test_shape(self):
        for deputies in (*few_deputies()[:38], *all_deputies(4)[::5], *LARGE):
            with self.subTest(deputies=deputies):
                self.same(shape(deputies), sorted(all_named_anew(deputies))[0])

    def test_alike(self):
        for size in (1, 2, 3):
            for one, other in itertools.product(all_deputies(size), repeat=2):
                with self.subTest(one=one, other=other):
                    self.same(alike(one, other), other in all_named_anew(one))
                    self.same(alike(one, other), shape(one) == shape(other))

    def test_alike_of_4_people(self):
        known = {one: sorted(all_named_anew(one))[0] for one in all_deputies(4)}
        for one, other in itertools.product(all_deputies(4)[::7], all_deputies(4)[::11]):
            self.same(alike(one, other), known[one] == known[other])

    def test_alike_of_many_people(self):
        for one, other in itertools.product(LARGE, repeat=2):
            if len(one) == len(other):
                self.same(alike(one, other), one == other or other in all_named_anew(one))

    def test_under_several_and_under_no_new_names(self):
        for one in (*all_deputies(3), *LARGE[::2]):
            for other in all_named_anew(one)[::1 if len(one) < 4 else 131]:
                self.same([alike(one, other), alike(other, one), shape(other) == shape(one)], [True] * 3)
        self.same([alike((1, 0, -1), (1, -1, 0)), alike((1, 2, -1), (1, -1, 1))], [False, False])

    def test_own_names(self):
        for deputies in (*few_deputies()[:38], *all_deputies(4)[::5], *LARGE):
            with self.subTest(deputies=deputies):
                self.same(own_names(deputies), sum(one == deputies for one in all_named_anew(deputies)))

    def test_so_many_are_alike_as_there_are_other_names(self):
        for size, orders in ((3, 6), (4, 24)):
            for deputies in all_deputies(size)[::13]:
                among = [other for other in all_deputies(size) if alike(deputies, other)]
                self.same(len(among) * own_names(deputies), orders)


class Wrong(Case):
    def test_the_second_of_another_size(self):
        for size in range(1, 7):
            for other in range(1, 7):
                if other != size:
                    self.fails(BadDeputies, alike, (-1,) * size, (-1,) * other)
        for value in ODD_VALUES + ((0, -1), (2, -1), (True, -1), [1, 0], (1, -1, "0"), 0):
            self.fails(BadDeputies, alike, (1, 0), value)
            self.fails(BadDeputies, alike, value, (1, 0))

    def test_weights_at_both_ends(self):
        for weights in ((0, 1), (1, 61), (1,), (1, 1, 1), (True, 1), [1, 1], None, "11", {0: 1, 1: 1}, 1):
            self.fails(BadWeights, told_chance, (1, 0), weights, None)
            self.fails(BadWeights, handing_chances_by, (1, 0), weights, None)

    def test_told_holders_and_people(self):
        for told, index in ((None, None), (0, None), ((0,), 0), (((0, (0, 2)),), 0), (((1, (1,)), (0, (0,))), 1)):
            self.fails(BadTold, told_chance, (1, 0), (1, 1), told, index=index)
        for person in (2, -1, True, None, "0", (0,), [0]):
            self.fails(BadPerson, handing_chances_by, (1, 0), (1, 1), person)


if __name__ == "__main__":
    unittest.main()
