"""Mean times, if each person stays for a random time of its own, the shorter the greater its rate.

The functions whose names end with `_of` are for the package: they check nothing, and to them the people of a
lot may be given in any order.
"""

from itertools import combinations

from firstthere.checks import check_deputies, check_lot, check_person, check_weights, check_weights_alone
from firstthere.deputies import ahead_of, chain_of
from firstthere.errors import BadLot
from firstthere.ratios import NONE_AT_ALL, less, ratio, sum_of


def mean_stay_of(rates, lot):
    people = list(lot)
    found = []
    sign = 1
    # The last one's time is the sum of the first one's times of all parts, those of evenly many taken off.
    for many in range(1, len(people) + 1):
        for part in combinations(people, many):
            found.append(ratio(sign, sum(rates[one] for one in part)))
        sign = -sign
    return sum_of(found)


def mean_hold_by_of(deputies, rates, person, other):
    ahead = ahead_of(deputies, person, other)
    if ahead is None:
        return NONE_AT_ALL
    return less(mean_stay_of(rates, (*ahead, other)), mean_stay_of(rates, ahead))


def mean_stay(rates, lot):
    """The mean time until all of the lot have left."""
    check_weights_alone(rates)
    check_lot(lot, len(rates))
    if not lot:
        raise BadLot("a lot of nobody has no time until all of it have left")
    return mean_stay_of(rates, lot)


def mean_out_by(deputies, rates, person):
    """The mean time until the person's duty comes to the office."""
    check_deputies(deputies)
    check_weights(rates, len(deputies))
    check_person(person, len(deputies))
    return mean_stay_of(rates, chain_of(deputies, person))


def mean_hold_by(deputies, rates, person, other):
    """The mean time for which the other person holds the person's duty."""
    check_deputies(deputies)
    check_weights(rates, len(deputies))
    check_person(person, len(deputies))
    check_person(other, len(deputies))
    return mean_hold_by_of(deputies, rates, person, other)


def load_times(deputies, rates):
    """The mean times for which 0, 1, .. hold duties, those for all duties summed up."""
    check_deputies(deputies)
    check_weights(rates, len(deputies))
    people = list(range(len(deputies)))
    return tuple(sum_of([mean_hold_by_of(deputies, rates, duty, person) for duty in people]) for person in people)
