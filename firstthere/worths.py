"""What it is worth who holds whose duty, and for which deputies or in which order of leaving it is worth most.

The functions whose names end with `_of` are for the package: they check nothing, and to them the gone ones
may be given in any order.
"""

from math import comb

from firstthere.checks import (
    are_deputies_of, check_at_most, check_count, check_deputies, check_lot, check_order, check_size, check_table,
    is_integer_and_whole_order, is_pair)
from firstthere.deputies import holders_of
from firstthere.listings import all_deputies, all_lots, lots_of
from firstthere.ratios import is_ratio, ratio
from firstthere.sights import MOST_SOUGHT


def worth_of(deputies, table, gone):
    held = holders_of(deputies, gone)
    # The office stands last in each row of the table, where its number -1 finds it.
    return sum(table[duty][held[duty]] for duty in range(len(held)))


def worths_sum_of(deputies, table, many):
    return sum([worth_of(deputies, table, lot) for lot in lots_of(len(deputies), many)])


def mean_worth_of(deputies, table, many):
    return ratio(worths_sum_of(deputies, table, many), comb(len(deputies), many))


def best_deputies_of(size, table, many):
    # All have the same number of lots, so that their sums compare as their means do.
    found = [(worths_sum_of(deputies, table, many), deputies) for deputies in all_deputies(size)]
    total, deputies = max(found)
    return (ratio(total, comb(size, many)), deputies)


def order_total_of(deputies, table, order):
    return sum(worth_of(deputies, table, order[:many]) for many in range(1, len(order) + 1))


def best_order_of(deputies, table):
    best = {(): (0, ())}
    # Fewer people come first: how a lot leaves best depends on how the lots without one of it do.
    for lot in all_lots(len(deputies))[1:]:
        ways = []
        for person in lot:
            total, order = best[tuple(one for one in lot if one != person)]
            ways.append((total, (*order, person)))
        total, order = max(ways)
        best[lot] = (total + worth_of(deputies, table, lot), order)
    return best[tuple(range(len(deputies)))]


def worth(deputies, table, gone):
    """The sum over all duties of what their holders are worth when the lot has left."""
    check_deputies(deputies)
    check_table(table, len(deputies))
    check_lot(gone, len(deputies))
    return worth_of(deputies, table, gone)


def mean_worth(deputies, table, many):
    """The mean of the worth over all lots of so many."""
    check_deputies(deputies)
    check_table(table, len(deputies))
    check_count(many, 0, len(deputies))
    return mean_worth_of(deputies, table, many)


def best_deputies(size, table, many):
    """A pair (mean, deputies): deputies with the greatest mean worth."""
    check_size(size)
    check_table(table, size)
    check_count(many, 0, size)
    check_at_most(size, MOST_SOUGHT)
    return best_deputies_of(size, table, many)


def shows_best_deputies(size, table, many, value):
    """Whether the value is such a pair."""
    check_size(size)
    check_table(table, size)
    check_count(many, 0, size)
    check_at_most(size, MOST_SOUGHT)
    if not is_pair(value) or not is_ratio(value[0]) or not are_deputies_of(value[1], size):
        return False
    return value[0] == mean_worth_of(value[1], table, many) == best_deputies_of(size, table, many)[0]


def best_order(deputies, table):
    """A pair (total, order): a whole order with the greatest sum of the worths behind each leaving."""
    check_deputies(deputies)
    check_table(table, len(deputies))
    return best_order_of(deputies, table)


def shows_best_order(deputies, table, value):
    """Whether the value is such a pair."""
    check_deputies(deputies)
    check_table(table, len(deputies))
    if not is_integer_and_whole_order(value, len(deputies)):
        return False
    return value[0] == order_total_of(deputies, table, value[1]) == best_order_of(deputies, table)[0]


def order_total(deputies, table, order):
    """The sum of the worths behind each leaving of an order."""
    check_deputies(deputies)
    check_table(table, len(deputies))
    check_order(order, len(deputies))
    return order_total_of(deputies, table, order)
