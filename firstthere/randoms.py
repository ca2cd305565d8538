"""Who holds whose duty if all deputies of a size are as likely, of up to 60 people."""

from firstthere.checks import MOST_COUNTED, check_count
from firstthere.counts import chain_total_of, naming_count_of
from firstthere.ratios import ratio


def chance_of_out(size, many):
    """The chance that the duty of one of so many who left is with the office, not in lowest terms."""
    top = 0
    bottom = 1
    ways = 1
    for met in range(1, many + 1):
        # The one met last names nobody or one met before: so many ways. Or it goes on to another one who left.
        top = top * size + ways * met
        bottom = bottom * size
        ways = ways * (many - met)
    return (top, bottom)


def random_out(size, many):
    """The chance that the duty of one of so many people who left is with the office."""
    check_count(size, 1, MOST_COUNTED)
    check_count(many, 1, size)
    top, bottom = chance_of_out(size, many)
    return ratio(top, bottom)


def random_hold(size, many):
    """The chance that the duty of one of so many people who left is with one told person who is there."""
    check_count(size, 1, MOST_COUNTED)
    check_count(many, 1, size - 1)
    top, bottom = chance_of_out(size, many)
    # All who are there are as likely to hold it.
    return ratio(bottom - top, bottom * (size - many))


def random_loads(size, many):
    """The mean loads of one told person who is there, 0 if nobody is, and of the office."""
    check_count(size, 1, MOST_COUNTED)
    check_count(many, 0, size)
    top, bottom = chance_of_out(size, many)
    at_office = ratio(many * top, bottom)
    if many == size:
        return ((0, 1), at_office)
    return (ratio(size * bottom - many * top, bottom * (size - many)), at_office)


def length_chances(size):
    """The chances that the chain of one told person has 1, 2, .. people."""
    check_count(size, 1, MOST_COUNTED)
    chains = size * naming_count_of(size)
    return tuple(ratio(chain_total_of(size, length), chains) for length in range(1, size + 1))
