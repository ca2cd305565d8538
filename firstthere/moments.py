"""When a duty comes to whom, as people leave one after another."""

from math import comb

from firstthere.chances import hold_chance_of
from firstthere.checks import (
    MOST_COUNTED, check_count, check_deputies, check_holder, check_order, check_person, check_places)
from firstthere.deputies import chain_of, holder_of
from firstthere.ratios import NONE_AT_ALL, mean_place, ratio, sum_of


def chances_of_out(deputies, person):
    size = len(deputies)
    many = len(chain_of(deputies, person))
    # The last one of the chain takes the duty out: so many leave ahead of it, all others of the chain among them.
    behind = [ratio(comb(ahead, many - 1), comb(size, many)) for ahead in range(size)]
    return (NONE_AT_ALL, *behind)


def moment(deputies, order, person, other):
    """Behind how many leavings the other one, or the office, holds the person's duty first, None if it never does."""
    check_deputies(deputies)
    check_order(order, len(deputies))
    check_person(person, len(deputies))
    check_holder(other, len(deputies))
    for many in range(len(order) + 1):
        if holder_of(deputies, order[:many], person) == other:
            return many
    return None


def out_chances(deputies, person):
    """The chances that the person's duty comes to the office just behind 0, 1, 2, .. leavings."""
    check_deputies(deputies)
    check_person(person, len(deputies))
    return chances_of_out(deputies, person)


def mean_out(deputies, person):
    """The mean number of leavings until the person's duty comes to the office."""
    check_deputies(deputies)
    check_person(person, len(deputies))
    return mean_place(chances_of_out(deputies, person))


def holding_time(deputies, person, other):
    """The mean number of moments, all but the last one, in which the other person holds the person's duty."""
    check_deputies(deputies)
    check_person(person, len(deputies))
    check_person(other, len(deputies))
    return sum_of([hold_chance_of(deputies, many, person, other) for many in range(len(deputies))])


def record_orders(length, places):
    """The number of orders of so many people with the records, later than all ahead, at just these places."""
    check_count(length, 1, MOST_COUNTED)
    check_places(places, length)
    count = 1
    for place in range(length):
        # Among those ahead and itself, it may come at any place but the last; the first one always is a record.
        if place not in places:
            count = count * place
    return count
