"""Who leaves when, and who holds whose duty, if the next to leave is drawn in proportion to weights.

The functions whose names end with `_of` are for the package: they check nothing, and to them the people of a
lot may be given in any order.
"""

from itertools import permutations

from firstthere.checks import (
    OFFICE, check_count, check_deputies, check_holder, check_lot, check_order, check_person, check_weights,
    check_weights_alone)
from firstthere.deputies import ahead_of, holder_of
from firstthere.errors import BadPerson
from firstthere.listings import lots_of
from firstthere.ratios import NONE_AT_ALL, SURE, ratio, sum_of


def order_chance_of(weights, order):
    top = 1
    bottom = 1
    there = sum(weights)
    for person in order:
        top = top * weights[person]
        bottom = bottom * there
        there = there - weights[person]
    return ratio(top, bottom)


def lot_chance_of(weights, lot):
    people = list(lot)
    return sum_of([order_chance_of(weights, order) for order in permutations(people)])


def ahead_chance_of(weights, lot, person):
    # Whoever else there is changes nothing in the order of these ones among themselves.
    their_weights = [weights[one] for one in lot] + [weights[person]]
    return lot_chance_of(their_weights, list(range(len(lot))))


def last_chance_of(weights, person):
    others = [one for one in range(len(weights)) if one != person]
    return ahead_chance_of(weights, others, person)


def ever_chance_by_of(deputies, weights, person, other):
    if other == OFFICE:
        return SURE
    ahead = ahead_of(deputies, person, other)
    if ahead is None:
        return NONE_AT_ALL
    return ahead_chance_of(weights, ahead, other)


def order_chance(weights, order):
    """The chance that these leave first, in this order."""
    check_weights_alone(weights)
    check_order(order, len(weights))
    return order_chance_of(weights, order)


def ahead_chance(weights, lot, person):
    """The chance that all of the lot leave ahead of the person."""
    check_weights_alone(weights)
    check_lot(lot, len(weights))
    check_person(person, len(weights))
    if person in lot:
        raise BadPerson("the person is not one of the lot")
    return ahead_chance_of(weights, lot, person)


def last_chances(weights):
    """The chances of 0, 1, .. to leave last."""
    check_weights_alone(weights)
    return tuple(last_chance_of(weights, person) for person in range(len(weights)))


def lot_chance(weights, lot):
    """The chance that just the lot leave first, in any order."""
    check_weights_alone(weights)
    check_lot(lot, len(weights))
    return lot_chance_of(weights, lot)


def ever_chance_by(deputies, weights, person, other):
    """The chance that the other one, or the office, ever holds the person's duty."""
    check_deputies(deputies)
    check_weights(weights, len(deputies))
    check_person(person, len(deputies))
    check_holder(other, len(deputies))
    return ever_chance_by_of(deputies, weights, person, other)


def hold_chances_by(deputies, weights, many, person):
    """The chances that 0, 1, .. and, last, the office hold the person's duty when so many have left."""
    check_deputies(deputies)
    check_weights(weights, len(deputies))
    check_count(many, 0, len(deputies))
    check_person(person, len(deputies))
    held = [(holder_of(deputies, lot, person), lot) for lot in lots_of(len(deputies), many)]
    each = list(range(len(deputies))) + [OFFICE]
    return tuple(sum_of([lot_chance_of(weights, lot) for by, lot in held if by == one]) for one in each)


def mean_handings_by(deputies, weights):
    """The mean number of handings of all duties together, in a whole order."""
    check_deputies(deputies)
    check_weights(weights, len(deputies))
    # Each person who ever holds a duty hands it on just once.
    people = list(range(len(deputies)))
    return sum_of([ever_chance_by_of(deputies, weights, person, other) for person in people for other in people])
