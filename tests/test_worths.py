"""What holdings are worth (point 12)."""

import unittest

from firstthere.errors import BadCount, BadTable
from firstthere.worths import (
    best_deputies, best_order, mean_worth, order_total, shows_best_deputies, shows_best_order, worth)
from tests.support import (
    LARGE, ODD_VALUES, Case, all_deputies, all_lots, all_orders, as_mean, few_deputies, held_when, near, rows_in_time,
    some_rows, whole_orders)

TABLE = ((3, 1, 0), (0, 5, 0))


def worth_when(deputies, table, lot):
    return worth_of_row(table, held_when(deputies, lot))


def worth_of_row(table, held):
    """The office's worth is the last of each duty."""
    return sum(row[by] if by >= 0 else row[len(table)] for row, by in zip(table, held))


def mean_of(deputies, table, many):
    lots = [lot for lot in all_lots(len(deputies)) if len(lot) == many]
    return as_mean([worth_when(deputies, table, lot) for lot in lots])


def total_of(table, rows):
    return sum(worth_of_row(table, held) for held in rows[1:])


def orders_and_totals(deputies, table):
    return [(total_of(table, rows), order) for order, rows in rows_in_time(deputies)]


def greater(mean, other):
    return mean[0] * other[1] > other[0] * mean[1]


def all_best(size, table, many):
    """All pairs of the greatest mean and deputies that have it."""
    found = [(mean_of(deputies, table, many), deputies) for deputies in all_deputies(size)]
    return [pair for pair in found if not any(greater(other, pair[0]) for other, _ in found)]


def few_tables(size):
    return list(some_rows(size))


class WorkedOut(Case):
    def test_worth(self):
        self.same([worth((-1,), ((7, -9),), lot) for lot in ((), (0,))], [7, -9])
        self.same([worth((1, -1), TABLE, lot) for lot in ((), (0,), (1,), (0, 1))], [8, 6, 3, 0])
        self.same([worth((1, 0), TABLE, lot) for lot in ((), (0,), (1,), (0, 1))], [8, 6, 3, 0])
        self.same(worth((-1,) * 6, ((100,) * 7,) * 6, (1, 3)), 600)
        self.same(worth((-1,) * 6, ((0, 0, 0, 0, 0, 0, -100),) * 6, (1, 3)), -200)

    def test_mean_worth(self):
        self.same([mean_worth((-1,), ((7, -9),), many) for many in (0, 1)], [(7, 1), (-9, 1)])
        self.same([mean_worth((1, -1), TABLE, many) for many in (0, 1, 2)], [(8, 1), (9, 2), (0, 1)])
        self.same(mean_worth((1, 2, 0), ((1, 0, 0, 0),) + ((0, 0, 0, 0),) * 2, 1), (2, 3))
        self.same(mean_worth((1, 2, 0), ((-1, 0, 0, 0),) + ((0, 0, 0, 0),) * 2, 1), (-2, 3))

    def test_best_deputies(self):
        self.same(best_deputies(1, ((-100, 100),), 1), ((100, 1), (-1,)))
        self.same(best_deputies(2, ((0, 100, 0), (100, 0, 0)), 1), ((100, 1), (1, 0)))
        self.same(best_deputies(2, ((0, -100, 0), (-100, 0, 0)), 1), ((0, 1), (-1, -1)))
        self.same(best_deputies(4, ((0,) * 5,) * 4, 2)[0], (0, 1))
        self.same(best_deputies(4, ((-1,) * 5,) * 4, 2)[0], (-4, 1))

    def test_shows_best_deputies(self):
        self.same(shows_best_deputies(2, TABLE, 1, ((9, 2), (1, 0))), True)
        self.same(shows_best_deputies(2, TABLE, 1, ((9, 2), (-1, 0))), False)
        self.same(shows_best_deputies(2, TABLE, 1, ((4, 1), (-1, 0))), False)
        self.same(shows_best_deputies(2, TABLE, 1, ((18, 4), (1, -1))), False)
        self.same(shows_best_deputies(2, TABLE, 2, ((0, 1), (-1, 0))), True)
        self.same(shows_best_deputies(2, TABLE, 2, (0, (-1, 0))), False)

    def test_best_order(self):
        self.same(best_order((-1,), ((7, -9),)), (-9, (0,)))
        self.same(best_order((-1, -1), ((100, 0, 0), (0, 50, 0))), (100, (1, 0)))
        self.same(best_order((-1, -1), ((-100, 0, 0), (0, -50, 0))), (-50, (0, 1)))
        self.same(best_order((1, -1), ((0, 0, 10), (0, 0, 0)))[0], 10)
        self.same(shows_best_order((1, -1), ((0, 0, 10), (0, 0, 0)), (10, (1, 0))), True)
        self.same(shows_best_order((1, -1), ((0, 0, 10), (0, 0, 0)), (10, (0,))), False)
        self.same(shows_best_order((1, -1), ((0, 0, 10), (0, 0, 0)), (0, ())), False)

    def test_order_total(self):
        self.same(order_total((1, -1), TABLE, ()), 0)
        self.same(order_total((1, -1), TABLE, (1,)), 3)
        self.same(order_total((1, -1), TABLE, (1, 0)), 3)
        self.same(order_total((-1,) * 6, ((100,) * 7,) * 6, (5, 0, 1, 2, 3, 4)), 3600)


class AllLots(Case):
    def test_worth_and_mean_worth(self):
        for deputies in few_deputies():
            for table in few_tables(len(deputies)):
                with self.subTest(deputies=deputies, table=table):
                    for lot in all_lots(len(deputies)):
                        self.same(worth(deputies, table, lot), worth_when(deputies, table, lot))
                    for many in range(len(deputies) + 1):
                        self.same(mean_worth(deputies, table, many), mean_of(deputies, table, many))

    def test_each_place_of_a_table(self):
        for size in range(1, 4):
            for deputies in all_deputies(size):
                for duty in range(size):
                    for place in range(size + 1):
                        rows = [[0] * (size + 1) for _ in range(size)]
                        rows[duty][place] = 100
                        table = tuple(map(tuple, rows))
                        for lot in all_lots(size):
                            held = held_when(deputies, lot)[duty] % (size + 1)
                            self.same(worth(deputies, table, lot), 100 if held == place else 0)


class AllDeputies(Case):
    def test_best_deputies(self):
        for size in range(1, 5):
            for table in few_tables(size):
                for many in range(size + 1):
                    good = all_best(size, table, many)
                    with self.subTest(size=size, table=table, many=many):
                        self.assertIn(repr(best_deputies(size, table, many)), [repr(pair) for pair in good])
                        self.assertIs(shows_best_deputies(size, table, many, good[-1]), True)

    def test_shows_best_deputies(self):
        for size in range(1, 4):
            for table in few_tables(size)[::2]:
                for many in range(size + 1):
                    good = all_best(size, table, many)
                    means = {mean_of(deputies, table, many) for deputies in all_deputies(size)}
                    others = [(mean, deputies) for mean in means for deputies in all_deputies(size)]
                    top, bottom = good[0][0]
                    for mean in ((top * 2, bottom * 2), (top,), [top, bottom], top, (-top, -bottom)):
                        others += [(mean, deputies) for deputies in all_deputies(size)]
                    self.shows(shows_best_deputies, (size, table, many), good, others)

    def test_shows_best_deputies_of_4_people(self):
        for table in few_tables(4)[1::2]:
            for many in (0, 2, 3, 4):
                good = {repr(pair) for pair in all_best(4, table, many)}
                best = best_deputies(4, table, many)
                others = [(best[0], deputies) for deputies in all_deputies(4)[::9]]
                others += [(mean_of(deputies, table, many), deputies) for deputies in all_deputies(4)[::9]]
                for value in (best, *others, *near(best)[::5]):
                    self.assertIs(shows_best_deputies(4, table, many, value), repr(value) in good, value)

    def test_means_that_are_not_whole(self):
        bottoms = {best_deputies(4, table, many)[0][1] for table in few_tables(4) for many in range(5)}
        self.assertGreater(len(bottoms), 1)


class AllOrders(Case):
    def test_order_total(self):
        for deputies in few_deputies()[::3]:
            for table in few_tables(len(deputies))[2:4]:
                for order in all_orders(len(deputies))[::7]:
                    lots = [tuple(sorted(order[:many])) for many in range(1, len(order) + 1)]
                    expected = sum(worth_when(deputies, table, lot) for lot in lots)
                    with self.subTest(deputies=deputies, table=table, order=order):
                        self.same(order_total(deputies, table, order), expected)

    def test_order_total_of_whole_orders(self):
        for deputies in LARGE[7::3]:
            for table in few_tables(6)[3:]:
                for total, order in orders_and_totals(deputies, table)[::17]:
                    self.same(order_total(deputies, table, order), total)

    def test_best_order(self):
        for deputies in few_deputies():
            for table in few_tables(len(deputies)):
                pairs = orders_and_totals(deputies, table)
                good = [repr(pair) for pair in pairs if pair[0] == max(pairs)[0]]
                with self.subTest(deputies=deputies, table=table):
                    self.assertIn(repr(best_order(deputies, table)), good)
                    self.assertIs(shows_best_order(deputies, table, best_order(deputies, table)), True)

    def test_shows_best_order(self):
        for deputies in few_deputies()[::4]:
            for table in few_tables(len(deputies))[2:5]:
                pairs = orders_and_totals(deputies, table)
                most = max(pairs)[0]
                good = [pair for pair in pairs if pair[0] == most]
                others = [(most, order) for _, order in pairs[::7]] + pairs[::7]
                others += [(most, order[:-1]) for _, order in pairs[:5]] + [(str(most), good[0][1])]
                self.shows(shows_best_order, (deputies, table), good, others)

    def test_an_order_that_is_not_whole(self):
        table = ((-100, -100, -100), (-100, -100, -100))
        self.same(best_order((1, 0), table)[0], -400)
        for value in ((0, ()), (-200, (0,)), (-200, (1,)), (-200, (0, 1)), (-600, (0, 1, 0)), -400, (-400,)):
            self.assertIs(shows_best_order((1, 0), table, value), False)
        for order in whole_orders(2):
            self.assertIs(shows_best_order((1, 0), table, (-400, order)), True)


class Wrong(Case):
    def test_worths_at_both_ends(self):
        for number in (-100, 100, 0):
            self.same(worth((-1,), ((number, 0),), ()), number)
            self.same(worth((-1,), ((0, number),), (0,)), number)
        for number in (-101, 101, 1000, True, "1", None, (1,), [1]):
            for table in (((number, 0),), ((0, number),)):
                self.fails(BadTable, worth, (-1,), table, ())
                self.fails(BadTable, mean_worth, (-1,), table, 0)
                self.fails(BadTable, best_deputies, 1, table, 0)
                self.fails(BadTable, shows_best_deputies, 1, table, 0, None)
                self.fails(BadTable, best_order, (-1,), table)
                self.fails(BadTable, shows_best_order, (-1,), table, None)
                self.fails(BadTable, order_total, (-1,), table, ())

    def test_numbers_just_outside(self):
        for size in range(1, 5):
            table = ((0,) * (size + 1),) * size
            for many in (-1, size + 1, 7, True, None):
                self.fails(BadCount, mean_worth, (-1,) * size, table, many)
                self.fails(BadCount, best_deputies, size, table, many)
                self.fails(BadCount, shows_best_deputies, size, table, many, None)

    def test_odd_values(self):
        for value in ODD_VALUES:
            self.assertIs(shows_best_order((-1,), ((7, -9),), value), False)
            self.assertIs(shows_best_deputies(1, ((7, -9),), 0, value), False)


if __name__ == "__main__":
    unittest.main()
