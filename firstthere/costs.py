"""Keepers for the least sum of costs, and papers that show that none cost less."""

from firstthere.checks import check_costs, check_deputies, is_integer_and_lot
from firstthere.deputies import chain_of
from firstthere.keeping import keeping_lots
from firstthere.ratios import NONE_AT_ALL, are_amounts, sum_of
from firstthere.rings import is_end


def costs_and_keepers(deputies, costs):
    return [(sum(costs[person] for person in lot), lot) for lot in keeping_lots(deputies)]


def least_cost(deputies, costs):
    return min(costs_and_keepers(deputies, costs))[0]


def paper_number(deputies, costs, person):
    met = chain_of(deputies, person)
    # One of each round, and each one who names nobody, pays for all whose chains end there.
    if is_end(deputies, person) and person == min(met):
        return (min(costs[one] for one in met), 1)
    return NONE_AT_ALL


def is_within(deputies, costs, paper, person):
    """Whether the duties on whose chains the person is have no more than its cost together."""
    top, bottom = sum_of([paper[duty] for duty in range(len(paper)) if person in chain_of(deputies, duty)])
    return top <= costs[person] * bottom


def cheap_keepers(deputies, costs):
    """A pair (cost, lot): keepers with the least sum of costs."""
    check_deputies(deputies)
    check_costs(costs, len(deputies))
    return min(costs_and_keepers(deputies, costs))


def shows_cheap_keepers(deputies, costs, value):
    """Whether the value is such a pair."""
    check_deputies(deputies)
    check_costs(costs, len(deputies))
    found = costs_and_keepers(deputies, costs)
    return is_integer_and_lot(value, len(deputies)) and value in found and value[0] == min(found)[0]


def keeper_paper(deputies, costs):
    """A ratio for each duty: within each person's cost, all together the least cost of keepers."""
    check_deputies(deputies)
    check_costs(costs, len(deputies))
    return tuple(paper_number(deputies, costs, person) for person in range(len(deputies)))


def shows_keeper_paper(deputies, costs, value):
    """Whether the value is a tuple of such ratios."""
    check_deputies(deputies)
    check_costs(costs, len(deputies))
    if not are_amounts(value, len(deputies)) or sum_of(value) != (least_cost(deputies, costs), 1):
        return False
    return all(is_within(deputies, costs, value, person) for person in range(len(deputies)))
