"""The most handings, deputies that are alike under new names, and what comes by weights in whole orders.

The functions whose names end with `_of` are for the package: they check nothing.
"""

from itertools import permutations

from firstthere.checks import (
    check_deputies, check_deputies_of, check_person, check_told, check_weights, is_integer_and_whole_order)
from firstthere.deputies import chain_of
from firstthere.leaving import handing_count_of, handings_of
from firstthere.naming import renamed_of
from firstthere.orders import orders_as_told
from firstthere.ratios import sum_of
from firstthere.weights import order_chance_of


def counts_and_orders(deputies):
    return [(handing_count_of(deputies, order), order) for order in permutations(range(len(deputies)))]


def all_renamed(deputies):
    """The deputies of all new names, once for each order."""
    return [renamed_of(deputies, order) for order in permutations(range(len(deputies)))]


def most_handings(deputies):
    """A pair (number, order): a whole order in which duties are handed on most often."""
    check_deputies(deputies)
    return max(counts_and_orders(deputies))


def shows_most_handings(deputies, value):
    """Whether the value is such a pair."""
    check_deputies(deputies)
    found = counts_and_orders(deputies)
    return is_integer_and_whole_order(value, len(deputies)) and value in found and value[0] == max(found)[0]


def shape(deputies):
    """The least deputies of new names."""
    check_deputies(deputies)
    return min(all_renamed(deputies))


def alike(one, other):
    """Whether the first deputies can be renamed to be the second."""
    check_deputies(one)
    check_deputies_of(other, len(one))
    return other in all_renamed(one)


def own_names(deputies):
    """The number of orders by which the deputies are renamed to themselves."""
    check_deputies(deputies)
    return all_renamed(deputies).count(deputies)


def told_chance(deputies, weights, told):
    """The chance, by weights, that in a whole order the holders one after another are just the told ones."""
    check_deputies(deputies)
    check_weights(weights, len(deputies))
    check_told(told, len(deputies))
    return sum_of([order_chance_of(weights, order) for order in orders_as_told(deputies, told)])


def handing_chances_by(deputies, weights, person):
    """The chances, by weights, that the person's duty is handed on 0, 1, 2, .. times in a whole order."""
    check_deputies(deputies)
    check_weights(weights, len(deputies))
    check_person(person, len(deputies))
    orders = list(permutations(range(len(deputies))))
    found = [(len(handings_of(deputies, order, person)) - 1, order_chance_of(weights, order)) for order in orders]
    most = len(chain_of(deputies, person))
    return tuple(sum_of([chance for times, chance in found if times == many]) for many in range(most + 1))
