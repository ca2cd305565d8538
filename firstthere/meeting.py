"""In how many whole orders of leaving duties come to somebody or meet, and by what chance."""

from itertools import permutations
from math import factorial

from firstthere.chances import ever_chance_of
from firstthere.checks import (
    OFFICE, check_count, check_deputies, check_holder, check_person, check_weights_alone)
from firstthere.deputies import chain_of, duties_of, holders_of
from firstthere.listings import lots_of
from firstthere.naming import are_joined
from firstthere.ratios import ratio, sum_of
from firstthere.weights import order_chance_of


def chances_up_to(most, numbers):
    """The chances of 0, 1, 2, .. up to the most, the numbers being as likely."""
    return tuple(ratio(numbers.count(number), len(numbers)) for number in range(most + 1))


def ever_meet(deputies, order, one, other):
    return any(are_joined(deputies, order[:many], one, other) for many in range(len(order) + 1))


def load_at_leaving(deputies, order, person):
    return len(duties_of(deputies, order[:order.index(person)], person))


def place_chance(weights, person, place):
    others = [one for one in range(len(weights)) if one != person]
    return sum_of([order_chance_of(weights, (*ahead, person)) for ahead in permutations(others, place)])


def ever_orders(deputies, person, other):
    """The number of whole orders in which the other one, or the office, ever holds the person's duty."""
    check_deputies(deputies)
    check_person(person, len(deputies))
    check_holder(other, len(deputies))
    top, bottom = ever_chance_of(deputies, person, other)
    return factorial(len(deputies)) * top // bottom


def last_orders(deputies, person, other):
    """The number of whole orders in which the other one is the last person to hold the person's duty."""
    check_deputies(deputies)
    check_person(person, len(deputies))
    check_person(other, len(deputies))
    met = chain_of(deputies, person)
    if other not in met:
        return 0
    # Each one of the chain is as often the last of them to leave.
    return factorial(len(deputies)) // len(met)


def meeting_orders(deputies, one, other):
    """The number of whole orders in which one and the same person ever holds both duties at once."""
    check_deputies(deputies)
    check_person(one, len(deputies))
    check_person(other, len(deputies))
    orders = list(permutations(range(len(deputies))))
    return len([order for order in orders if ever_meet(deputies, order, one, other)])


def load_chances(deputies, person):
    """The chances that the person holds 0, 1, 2, .. up to all duties at its leaving."""
    check_deputies(deputies)
    check_person(person, len(deputies))
    loads = [load_at_leaving(deputies, order, person) for order in permutations(range(len(deputies)))]
    return chances_up_to(len(deputies), loads)


def office_chances(deputies, many):
    """The chances that 0, 1, 2, .. up to all duties are with the office when so many have left."""
    check_deputies(deputies)
    check_count(many, 0, len(deputies))
    loads = [holders_of(deputies, lot).count(OFFICE) for lot in lots_of(len(deputies), many)]
    return chances_up_to(len(deputies), loads)


def place_chances(weights, person):
    """The chances of the person to leave first, second, .. ."""
    check_weights_alone(weights)
    check_person(person, len(weights))
    return tuple(place_chance(weights, person, place) for place in range(len(weights)))


def likely_order(weights):
    """The smallest of the likeliest whole orders."""
    check_weights_alone(weights)
    # Each one is the likelier to be next the more it weighs; of equal ones, any order is as likely.
    return tuple(sorted(range(len(weights)), key=lambda person: -weights[person]))
