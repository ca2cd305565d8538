"""How many may leave, whoever they are, that no duty comes to the office.

The functions whose names end with `_of` are for the package: they check nothing.
"""

from math import comb, perm

from firstthere.changing import changes_to, fewest_of, is_fewest
from firstthere.checks import (
    MOST_COUNTED, OFFICE, check_at_most, check_count, check_deputies, check_person)
from firstthere.counts import power_of
from firstthere.deputies import chain_of, holder_of, loads_of
from firstthere.listings import all_deputies, lots_of
from firstthere.ratios import ratio
from firstthere.sights import MOST_SOUGHT

# So many may be asked for of deputies of any size: more never can leave where deputies are sought.
MOST_SURE = 3


def least_chain_of(deputies):
    return min(len(chain_of(deputies, person)) for person in range(len(deputies)))


def long_rings_of(many, least):
    """For 0, 1, .. up to so many people, the numbers of ways in which all are in rounds of at least so many."""
    counts = [1]
    for people in range(1, many + 1):
        # In the round of the last one of them, any others stand behind it in any order.
        lengths = list(range(least, people + 1))
        counts.append(sum([perm(people - 1, length - 1) * counts[people - length] for length in lengths]))
    return counts


def ways_to_rings_of(size, many):
    """The number of ways in which the chains of all but so many end with one of these."""
    if many == size:
        return 1
    # So many forests there are of these people, with the trees of those many.
    return many * power_of(size, size - many - 1)


def sure_count_of(size, many):
    # Who names nobody is counted as a round of one, since its chain is just as long as such a round.
    rings = long_rings_of(size, many + 1)
    return sum([comb(size, people) * rings[people] * ways_to_rings_of(size, people) for people in range(size + 1)])


def changes_to_sure(deputies, many):
    found = [others for others in all_deputies(len(deputies)) if least_chain_of(others) > many]
    return changes_to(deputies, found)


def are_both_out(deputies, gone, one, other):
    return holder_of(deputies, gone, one) == OFFICE and holder_of(deputies, gone, other) == OFFICE


def least_chain(deputies):
    """The length of the shortest chain."""
    check_deputies(deputies)
    return least_chain_of(deputies)


def surest(deputies):
    """The greatest number such that no duty comes to the office when any so many have left."""
    check_deputies(deputies)
    return least_chain_of(deputies) - 1


def sure_count(size, many):
    """The number of deputies with whom no duty comes to the office when any so many have left."""
    check_count(size, 1, MOST_COUNTED)
    check_count(many, 0, size)
    return sure_count_of(size, many)


def fewest_sure(deputies, many):
    """A pair (changes, deputies): those so sure for so many that differ for the fewest people, or None."""
    check_deputies(deputies)
    check_count(many, 0, MOST_SURE)
    check_at_most(len(deputies), MOST_SOUGHT)
    return fewest_of(changes_to_sure(deputies, many))


def shows_fewest_sure(deputies, many, value):
    """Whether the value is such a pair, or None if there is none."""
    check_deputies(deputies)
    check_count(many, 0, MOST_SURE)
    check_at_most(len(deputies), MOST_SOUGHT)
    return is_fewest(changes_to_sure(deputies, many), len(deputies), value)


def spread(deputies, many):
    """The mean square of the number of duties with the office when so many have left, less its mean's square."""
    check_deputies(deputies)
    check_count(many, 0, len(deputies))
    numbers = [loads_of(deputies, lot)[-1] for lot in lots_of(len(deputies), many)]
    squares = sum([number * number for number in numbers])
    return ratio(squares * len(numbers) - sum(numbers) * sum(numbers), len(numbers) * len(numbers))


def both_out(deputies, many, one, other):
    """The chance that the duties of two people are both with the office when so many have left."""
    check_deputies(deputies)
    check_count(many, 0, len(deputies))
    check_person(one, len(deputies))
    check_person(other, len(deputies))
    lots = lots_of(len(deputies), many)
    return ratio(len([lot for lot in lots if are_both_out(deputies, lot, one, other)]), len(lots))
