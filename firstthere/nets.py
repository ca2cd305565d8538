"""In which order people leave at the least cost, and which lot leaves for the greatest net.

The functions whose names end with `_of` are for the package: they check nothing.
"""

from itertools import permutations

from firstthere.checks import (
    check_costs, check_deputies, check_order, check_table, is_integer_and_lot, is_integer_and_whole_order)
from firstthere.leaving import handings_of
from firstthere.listings import all_lots
from firstthere.worths import worth_of


def order_cost_of(deputies, costs, order):
    # Of those who hold a duty one after another, all but the last one hand it on.
    return sum(costs[by] for duty in range(len(deputies)) for by in handings_of(deputies, order, duty)[:-1])


def costs_and_orders(deputies, costs):
    return [(order_cost_of(deputies, costs, order), order) for order in permutations(range(len(deputies)))]


def net_of(deputies, table, costs, lot):
    return worth_of(deputies, table, lot) - sum(costs[person] for person in lot)


def nets_and_lots(deputies, table, costs):
    return [(net_of(deputies, table, costs, lot), lot) for lot in all_lots(len(deputies))]


def cheap_order(deputies, costs):
    """A pair (cost, order): a whole order in which it costs least that the duties are handed on."""
    check_deputies(deputies)
    check_costs(costs, len(deputies))
    return min(costs_and_orders(deputies, costs))


def shows_cheap_order(deputies, costs, value):
    """Whether the value is such a pair."""
    check_deputies(deputies)
    check_costs(costs, len(deputies))
    found = costs_and_orders(deputies, costs)
    return is_integer_and_whole_order(value, len(deputies)) and value in found and value[0] == min(found)[0]


def order_cost(deputies, costs, order):
    """The sum, over all handings of a duty in an order, of the costs of those who hand it on."""
    check_deputies(deputies)
    check_costs(costs, len(deputies))
    check_order(order, len(deputies))
    return order_cost_of(deputies, costs, order)


def best_lot(deputies, table, costs):
    """A pair (net, lot): a lot with the greatest worth when it has left, less the costs of its people."""
    check_deputies(deputies)
    check_table(table, len(deputies))
    check_costs(costs, len(deputies))
    return max(nets_and_lots(deputies, table, costs))


def shows_best_lot(deputies, table, costs, value):
    """Whether the value is such a pair."""
    check_deputies(deputies)
    check_table(table, len(deputies))
    check_costs(costs, len(deputies))
    found = nets_and_lots(deputies, table, costs)
    return is_integer_and_lot(value, len(deputies)) and value in found and value[0] == max(found)[0]
