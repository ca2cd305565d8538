"""Who holds the duties as people leave one after another.

The functions whose names end with `_of` are for the package: they check nothing.
"""

from firstthere.checks import check_deputies, check_lot, check_order, check_person
from firstthere.deputies import duties_of, holder_of, holders_of
from firstthere.errors import NotThere


def handings_of(deputies, order, person):
    held = [person]
    for many in range(1, len(order) + 1):
        now = holder_of(deputies, order[:many], person)
        if now != held[-1]:
            held.append(now)
    return tuple(held)


def handing_count_of(deputies, order):
    return sum(len(handings_of(deputies, order, person)) - 1 for person in range(len(deputies)))


def in_time(deputies, order):
    """The holders at first and behind each leaving."""
    check_deputies(deputies)
    check_order(order, len(deputies))
    return tuple(holders_of(deputies, order[:many]) for many in range(len(order) + 1))


def handings(deputies, order, person):
    """The holders of the person's duty one after another, the person first."""
    check_deputies(deputies)
    check_order(order, len(deputies))
    check_person(person, len(deputies))
    return handings_of(deputies, order, person)


def handing_count(deputies, order):
    """How often, all duties together, a duty is handed on."""
    check_deputies(deputies)
    check_order(order, len(deputies))
    return handing_count_of(deputies, order)


def leaving(deputies, gone, person):
    """The pairs (duty, new holder) of the duties that the person hands on when it leaves."""
    check_deputies(deputies)
    check_lot(gone, len(deputies))
    check_person(person, len(deputies))
    if person in gone:
        raise NotThere("a person who has left cannot leave")
    return tuple((duty, holder_of(deputies, (*gone, person), duty)) for duty in duties_of(deputies, gone, person))
