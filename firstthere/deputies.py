"""Chains of deputies, and who holds whose duty when a lot has left.

The functions whose names end with `_of` are for the package: they check nothing, and to them the gone ones
may be given in any order.
"""

from firstthere.checks import OFFICE, check_deputies, check_holder, check_lot, check_person


def chain_of(deputies, person):
    met = []
    at = person
    while at != OFFICE and at not in met:
        met.append(at)
        at = deputies[at]
    return tuple(met)


def ahead_of(deputies, person, other):
    """Those ahead of the other one, or of the office, on the person's chain; None if the other one is not on it."""
    met = chain_of(deputies, person)
    if other == OFFICE:
        return met
    if other not in met:
        return None
    return met[:met.index(other)]


def holder_of(deputies, gone, person):
    for one in chain_of(deputies, person):
        if one not in gone:
            return one
    return OFFICE


def holders_of(deputies, gone):
    return tuple(holder_of(deputies, gone, person) for person in range(len(deputies)))


def duties_of(deputies, gone, person):
    return tuple(duty for duty in range(len(deputies)) if holder_of(deputies, gone, duty) == person)


def loads_of(deputies, gone):
    held = holders_of(deputies, gone)
    by_people = tuple(held.count(person) for person in range(len(deputies)))
    return (*by_people, held.count(OFFICE))


def chain(deputies, person):
    """The person, its deputy, that one's deputy, and so on: each one once."""
    check_deputies(deputies)
    check_person(person, len(deputies))
    return chain_of(deputies, person)


def holder(deputies, gone, person):
    """The first one of the person's chain who is there, -1 if none is."""
    check_deputies(deputies)
    check_lot(gone, len(deputies))
    check_person(person, len(deputies))
    return holder_of(deputies, gone, person)


def holders(deputies, gone):
    """The holders of all duties."""
    check_deputies(deputies)
    check_lot(gone, len(deputies))
    return holders_of(deputies, gone)


def held_by(deputies, gone, person):
    """The people whose duties a person, or the office as -1, holds."""
    check_deputies(deputies)
    check_lot(gone, len(deputies))
    check_holder(person, len(deputies))
    return duties_of(deputies, gone, person)


def loads(deputies, gone):
    """How many duties 0, 1, .. and, last, the office hold."""
    check_deputies(deputies)
    check_lot(gone, len(deputies))
    return loads_of(deputies, gone)
