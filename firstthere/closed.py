"""Lots that keep to themselves, deputies held against other ones, and two offices made one."""

from firstthere.checks import (
    MOST_PEOPLE, OFFICE, check_at_most, check_deputies, check_deputies_of, check_lot)
from firstthere.deputies import chain_of, holders_of
from firstthere.listings import all_lots


def closure_of(deputies, lot):
    return tuple(sorted({one for person in lot for one in chain_of(deputies, person)}))


def closed_lots(deputies):
    """The lots of whom no deputy is outside, ascending."""
    check_deputies(deputies)
    return tuple(sorted([lot for lot in all_lots(len(deputies)) if closure_of(deputies, lot) == lot]))


def closure(deputies, lot):
    """The least such lot that holds a lot."""
    check_deputies(deputies)
    check_lot(lot, len(deputies))
    return closure_of(deputies, lot)


def unlike_lots(one, other):
    """The lots for which the holders of two deputies of one size differ, ascending."""
    check_deputies(one)
    check_deputies_of(other, len(one))
    return tuple(sorted([lot for lot in all_lots(len(one)) if holders_of(one, lot) != holders_of(other, lot)]))


def beside(one, other):
    """The deputies of both, the people of the second behind those of the first."""
    check_deputies(one)
    check_deputies(other)
    check_at_most(len(one) + len(other), MOST_PEOPLE)
    behind = [OFFICE if deputy == OFFICE else deputy + len(one) for deputy in other]
    return (*one, *behind)
