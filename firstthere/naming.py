"""Deputies named anew, and where the duties of two people come together.

The functions whose names end with `_of` are for the package: they check nothing.
"""

from firstthere.checks import OFFICE, check_deputies, check_lot, check_person, check_whole_order, is_lot
from firstthere.deputies import chain_of, holder_of
from firstthere.listings import all_lots, put_at


def are_joined(deputies, gone, one, other):
    """Whether one and the same person, not the office, holds both duties."""
    held = holder_of(deputies, gone, one)
    return held != OFFICE and held == holder_of(deputies, gone, other)


def joining_lots(deputies, one, other):
    """The lots whose leaving gives both duties to one and the same person, those of fewer people first."""
    return [lot for lot in all_lots(len(deputies)) if are_joined(deputies, lot, one, other)]


def renamed_of(deputies, order):
    named = (OFFICE,) * len(deputies)
    for person in range(len(deputies)):
        if deputies[person] != OFFICE:
            named = put_at(named, order[person], order[deputies[person]])
    return named


def reduced(deputies, gone):
    """The deputies when a lot has left for good: each person names the first one behind it who is there."""
    check_deputies(deputies)
    check_lot(gone, len(deputies))
    # Who holds a person's duty, were the person gone too, is the first one behind it.
    return tuple(holder_of(deputies, (*gone, person), person) for person in range(len(deputies)))


def renamed(deputies, order):
    """The deputies of the new names, the order telling the new name of each."""
    check_deputies(deputies)
    check_whole_order(order, len(deputies))
    return renamed_of(deputies, order)


def first_common(deputies, one, other):
    """The first one of the first one's chain who is on the chain of the other too, -1 if there is none."""
    check_deputies(deputies)
    check_person(one, len(deputies))
    check_person(other, len(deputies))
    for person in chain_of(deputies, one):
        if person in chain_of(deputies, other):
            return person
    return OFFICE


def join_lot(deputies, one, other):
    """The smallest of the least lots whose leaving gives both duties to one and the same person, or None."""
    check_deputies(deputies)
    check_person(one, len(deputies))
    check_person(other, len(deputies))
    found = joining_lots(deputies, one, other)
    if not found:
        return None
    return found[0]


def shows_join_lot(deputies, one, other, value):
    """Whether the value is some least such lot, or None if there is none."""
    check_deputies(deputies)
    check_person(one, len(deputies))
    check_person(other, len(deputies))
    found = joining_lots(deputies, one, other)
    if not found:
        return value is None
    return is_lot(value, len(deputies)) and value in found and len(value) == len(found[0])
