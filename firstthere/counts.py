"""How many deputies there are, and how many of each kind, of up to 60 people.

The functions whose names end with `_of` are for the package: they check nothing.
"""

from math import comb, perm

from firstthere.checks import MOST_COUNTED, check_count
from firstthere.ratios import ratio


def power_of(base, times):
    found = 1
    for _ in range(times):
        found = found * base
    return found


def naming_count_of(size):
    # Each person names one of the others, or nobody.
    return power_of(size, size)


def rings_of(many):
    """The number of ways in which so many people all are in rounds: nobody named twice, and nobody by itself."""
    count = 1
    sign = 1
    for people in range(1, many + 1):
        sign = -sign
        count = count * people + sign
    return count


def ways_into_of(size, many):
    """The number of ways in which the chains of all but so many end with one of these or with nobody named."""
    if many == size:
        return 1
    # So many forests there are of these people and nobody, with the trees of those many and of nobody.
    return (many + 1) * power_of(size + 1, size - many - 1)


def chain_total_of(size, length):
    # The last one names nobody or one of those ahead; who is not on the chain may name anybody.
    return perm(size, length) * length * power_of(size, size - length)


def naming_count(size):
    """The number of all deputies of so many people."""
    check_count(size, 1, MOST_COUNTED)
    return naming_count_of(size)


def office_count(size, many):
    """The number of those in which just so many people name nobody."""
    check_count(size, 1, MOST_COUNTED)
    check_count(many, 0, size)
    return comb(size, many) * power_of(size - 1, size - many)


def ring_count(size, many):
    """The number of those in which just so many people are in rounds."""
    check_count(size, 1, MOST_COUNTED)
    check_count(many, 0, size)
    return comb(size, many) * rings_of(many) * ways_into_of(size, many)


def chain_total(size, length):
    """The number of all chains of so many people, in all deputies of the size together."""
    check_count(size, 1, MOST_COUNTED)
    check_count(length, 1, size)
    return chain_total_of(size, length)


def mean_chain(size):
    """The mean length of a chain, in all deputies of the size together."""
    check_count(size, 1, MOST_COUNTED)
    total = sum([length * chain_total_of(size, length) for length in range(1, size + 1)])
    return ratio(total, size * naming_count_of(size))
