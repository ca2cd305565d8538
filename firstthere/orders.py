"""In how many whole orders of leaving the duties go as told, and which orders these are."""

from itertools import permutations

from firstthere.checks import check_deputies, check_told, is_plain_integer, is_order
from firstthere.errors import BadNumber, BadOrder
from firstthere.leaving import handing_count_of, handings_of


def goes_as_told(deputies, told, order):
    return all(handings_of(deputies, order, person) == held for person, held in told)


def orders_as_told(deputies, told):
    """The whole orders with just these holders, ascending, since `permutations` gives them so."""
    return [order for order in permutations(range(len(deputies))) if goes_as_told(deputies, told, order)]


def orders_with(deputies, told):
    """The number of whole orders in which the holders one after another are just the told ones."""
    check_deputies(deputies)
    check_told(told, len(deputies))
    return len(orders_as_told(deputies, told))


def order_at(deputies, told, number):
    """The one of these orders of which so many are less."""
    check_deputies(deputies)
    check_told(told, len(deputies))
    found = orders_as_told(deputies, told)
    if not is_plain_integer(number) or not 0 <= number < len(found):
        raise BadNumber("a number is an integer from 0 to less than the number of orders")
    return found[number]


def number_in(deputies, told, order):
    """How many of these orders are less than one of them."""
    check_deputies(deputies)
    check_told(told, len(deputies))
    found = orders_as_told(deputies, told)
    # `in` alone would take (True, 0) for (1, 0).
    if not is_order(order, len(deputies)) or order not in found:
        raise BadOrder("the order is not one of those that go as told")
    return found.index(order)


def handing_orders(deputies):
    """The numbers of whole orders with 0, 1, 2, .. handings in all."""
    check_deputies(deputies)
    counts = [handing_count_of(deputies, order) for order in permutations(range(len(deputies)))]
    return tuple(counts.count(number) for number in range(max(counts) + 1))
