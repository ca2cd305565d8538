"""Orders of leaving for costs, and lots for worths less costs (point 22)."""

import itertools
import unittest

from firstthere.errors import BadCosts, BadOrder, BadTable
from firstthere.nets import best_lot, cheap_order, order_cost, shows_best_lot, shows_cheap_order
from tests.support import (
    LARGE, OFFICE, Case, all_deputies, all_lots, all_orders, few_deputies, handed_on, held_when, near, rows_in_time,
    some_rows, whole_orders)

CHAIN = (1, 2, 3, 4, 5, -1)
RING = (1, 2, 3, 4, 5, 0)

SOME_COSTS = (
    (0, 0, 0, 0, 0, 0), (1000, 1000, 1000, 1000, 1000, 1000), (0, 1000, 0, 1000, 7, 0), (5, 3, 1, 4, 2, 6),
    (2, 0, 2, 1, 0, 3),
)


def some_costs(size):
    return sorted({costs[:size] for costs in SOME_COSTS})


def cost_of(costs, rows):
    """The costs of all who hand a duty on, from one row of holders to the next."""
    steps = [step for before, behind in zip(rows, rows[1:]) for step in zip(before, behind)]
    return sum(costs[by] for by, to in steps if by != to)


def orders_and_costs(deputies, costs):
    return [(cost_of(costs, rows), order) for order, rows in rows_in_time(deputies)]


def net_when(deputies, table, costs, lot):
    """The office's worth is the last of each duty."""
    held = held_when(deputies, lot)
    worths = [row[len(table) if by == OFFICE else by] for row, by in zip(table, held)]
    return sum(worths) - sum(cost for one, cost in enumerate(costs) if one in lot)


def all_nets(deputies, table, costs):
    return [(net_when(deputies, table, costs, lot), lot) for lot in all_lots(len(deputies))]


class WorkedOut(Case):
    def test_order_cost(self):
        self.same(order_cost((-1,), (1000,), ()), 0)
        self.same(order_cost((-1,), (1000,), (0,)), 1000)
        self.same([order_cost((1, -1), (2, 5), order) for order in ((), (0,), (1,), (0, 1), (1, 0))], [0, 2, 5, 12, 7])
        self.same(order_cost(CHAIN, (1, 10, 100, 1000, 0, 0), (0, 1)), 21)
        self.same(order_cost(CHAIN, (1, 10, 100, 1000, 0, 0), (1, 0)), 11)
        self.same(order_cost(CHAIN, (1, 10, 100, 1000, 0, 0), (2, 1, 0, 3)), 4111)
        self.same(order_cost(RING, (1000,) * 6, (0, 1, 2, 3, 4, 5)), 21000)
        self.same(order_cost(RING, (0,) * 6, (0, 1, 2, 3, 4, 5)), 0)

    def test_cheap_order(self):
        self.same(cheap_order((-1,), (0,)), (0, (0,)))
        self.same(cheap_order((-1,), (1000,)), (1000, (0,)))
        self.same(cheap_order((1, 0), (1, 1000)), (1002, (1, 0)))
        self.same(cheap_order((1, 0), (1000, 1)), (1002, (0, 1)))
        self.same(cheap_order(CHAIN, (1, 1, 1, 1, 1, 1)), (6, (5, 4, 3, 2, 1, 0)))
        self.same(cheap_order((1, 2, -1), (0, 0, 9))[0], 9)
        self.same(cheap_order((1, 2, -1), (9, 1, 0))[0], 10)

    def test_shows_cheap_order(self):
        self.same([shows_cheap_order((1, 0), (4, 4), (12, order)) for order in ((0, 1), (1, 0))], [True, True])
        self.same(shows_cheap_order((1, 0), (4, 5), (14, (0, 1))), False)
        self.same(shows_cheap_order((1, 0), (4, 5), (13, (0, 1))), False)
        self.same(shows_cheap_order((1, 0), (4, 5), (13, (1, 0))), True)
        self.same(shows_cheap_order((1, 0), (4, 5), (4, (0,))), False)
        self.same(shows_cheap_order((1, 0), (0, 0), (0, ())), False)
        self.same(shows_cheap_order((1, 0), (0, 0), (0, (1, 0))), True)

    def test_best_lot(self):
        self.same(best_lot((-1,), ((7, -9),), (0,)), (7, ()))
        self.same(best_lot((-1,), ((-100, 100),), (1000,)), (-100, ()))
        self.same(best_lot((-1,), ((-100, 100),), (199,)), (-99, (0,)))
        self.same(best_lot((-1,), ((-100, 100),), (0,)), (100, (0,)))
        self.same(best_lot((1, 0), ((0, 100, 0), (0, 90, 0)), (50, 0)), (140, (0,)))
        self.same(best_lot((-1,) * 6, ((-100,) * 6 + (100,),) * 6, (0, 1000, 0, 1000, 0, 0)), (200, (0, 2, 4, 5)))

    def test_shows_best_lot(self):
        table = ((-100, 100),)
        self.same([shows_best_lot((-1,), table, (200,), (-100, lot)) for lot in ((), (0,))], [True, True])
        self.same([shows_best_lot((-1,), table, (199,), (-100, lot)) for lot in ((), (0,))], [False, False])
        self.same([shows_best_lot((-1,), table, (199,), (-99, lot)) for lot in ((), (0,))], [False, True])
        self.same([shows_best_lot((-1,), table, (201,), (-100, lot)) for lot in ((), (0,))], [True, False])


class AllOrders(Case):
    def test_order_cost_of_all_orders(self):
        for deputies in few_deputies()[::2]:
            for costs in some_costs(len(deputies))[1:4]:
                for order in all_orders(len(deputies))[::3 if len(deputies) < 5 else 97]:
                    with self.subTest(deputies=deputies, costs=costs, order=order):
                        self.same(order_cost(deputies, costs, order), cost_of(costs, handed_on(deputies, order)))

    def test_order_cost_of_whole_orders(self):
        for deputies in LARGE:
            for costs in some_costs(len(deputies)):
                for cost, order in orders_and_costs(deputies, costs)[::71]:
                    self.same(order_cost(deputies, costs, order), cost)

    def test_cheap_order(self):
        for deputies in (*(one for size in (1, 2, 3) for one in all_deputies(size)), *all_deputies(4)[::11], *LARGE):
            for costs in some_costs(len(deputies))[::2 if len(deputies) == 6 else 1]:
                pairs = orders_and_costs(deputies, costs)
                good = [repr(pair) for pair in pairs if pair[0] == min(pairs)[0]]
                with self.subTest(deputies=deputies, costs=costs):
                    self.assertIn(repr(cheap_order(deputies, costs)), good)

    def test_shows_cheap_order(self):
        for deputies in (*few_deputies()[:38:3], *all_deputies(4)[::120]):
            for costs in some_costs(len(deputies)):
                pairs = orders_and_costs(deputies, costs)
                least = min(pairs)[0]
                others = pairs + [(least, order) for _, order in pairs] + [(cost + 1, order) for cost, order in pairs]
                others += [(order_cost(deputies, costs, order[:-1]), order[:-1]) for _, order in pairs]
                good = [pair for pair in pairs if pair[0] == least]
                self.shows(shows_cheap_order, (deputies, costs), good, others)

    def test_shows_cheap_order_of_many_people(self):
        for deputies in LARGE[1::4]:
            costs = SOME_COSTS[3][:len(deputies)]
            pairs = orders_and_costs(deputies, costs)
            least = min(pairs)[0]
            for pair in sorted(pairs)[:5] + pairs[::250]:
                self.assertIs(shows_cheap_order(deputies, costs, pair), pair[0] == least)
            self.assertIs(shows_cheap_order(deputies, costs, (least, max(pairs)[1])), False)
            self.assertIs(shows_cheap_order(deputies, costs, (least, list(min(pairs)[1]))), False)


class AllLots(Case):
    def test_best_lot(self):
        for deputies in few_deputies():
            for table, costs in itertools.product(some_rows(len(deputies)), some_costs(len(deputies))):
                pairs = all_nets(deputies, table, costs)
                good = [repr(pair) for pair in pairs if pair[0] == max(pairs)[0]]
                with self.subTest(deputies=deputies, table=table, costs=costs):
                    self.assertIn(repr(best_lot(deputies, table, costs)), good)

    def test_shows_best_lot(self):
        for deputies in few_deputies()[::8]:
            size = len(deputies)
            for table, costs in itertools.product(some_rows(size), ((0,) * size, (40, 7, 1000, 0, 3, 90)[:size])):
                pairs = all_nets(deputies, table, costs)
                most = max(pairs)[0]
                others = pairs + [(most, lot) for _, lot in pairs] + [(net + 1, lot) for net, lot in pairs]
                good = [pair for pair in pairs if pair[0] == most]
                self.shows(shows_best_lot, (deputies, table, costs), good, others)

    def test_each_cost_counts(self):
        for person in range(6):
            table = ((0,) * 6 + (1,),) * 6
            costs = tuple(0 if one == person else 1000 for one in range(6))
            self.same(best_lot((-1,) * 6, table, costs), (1, (person,)))

    def test_near_values(self):
        for value in near((140, (0,))):
            expected = repr(value) == "(140, (0,))"
            self.assertIs(shows_best_lot((1, 0), ((0, 100, 0), (0, 90, 0)), (50, 0), value), expected, value)


class Wrong(Case):
    def test_costs_at_both_ends(self):
        table = ((0, 0, 0), (0, 0, 0))
        for costs in ((-1, 0), (0, 1001), (0,), (0, 0, 0), (True, 0), (0, False), [0, 0], None, "00", {0: 0, 1: 0}):
            self.fails(BadCosts, cheap_order, (1, 0), costs)
            self.fails(BadCosts, shows_cheap_order, (1, 0), costs, (0, (0, 1)))
            self.fails(BadCosts, order_cost, (1, 0), costs, ())
            self.fails(BadCosts, best_lot, (1, 0), table, costs)
            self.fails(BadCosts, shows_best_lot, (1, 0), table, costs, (0, ()))
        for table in (((0, 0, 101), (0, 0, 0)), ((0, 0, 0), (-101, 0, 0)), ((0, 0, 0),), None, [(0, 0, 0), (0, 0, 0)]):
            self.fails(BadTable, best_lot, (1, 0), table, (0, 0))
            self.fails(BadTable, best_lot, (1, 0), table, (-1, 0))
            self.fails(BadTable, shows_best_lot, (1, 0), table, None, None)

    def test_orders(self):
        for order in ((2,), (0, 0), (-1,), [0], None, "0", 0, (True,), (0, 1, 0)):
            self.fails(BadOrder, order_cost, (1, 0), (0, 0), order)

    def test_all_whole_orders_are_shown_for_nothing(self):
        for order in whole_orders(3):
            self.assertIs(shows_cheap_order((1, 2, 0), (0, 0, 0), (0, order)), True)


if __name__ == "__main__":
    unittest.main()
