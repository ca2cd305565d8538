"""Where the chains of deputies lead: into rounds, or to somebody who names nobody."""

from firstthere.checks import OFFICE, check_deputies, check_person
from firstthere.deputies import chain_of


def named_last(deputies, person):
    """Whom the last one of the person's chain names: nobody, or the first one who would come again."""
    return deputies[chain_of(deputies, person)[-1]]


def is_in_round(deputies, person):
    return named_last(deputies, person) == person


def is_end(deputies, person):
    return deputies[person] == OFFICE or is_in_round(deputies, person)


def steps_of(deputies, person):
    steps = 0
    while not is_end(deputies, chain_of(deputies, person)[steps]):
        steps += 1
    return steps


def rounds(deputies):
    """The rounds: the people who name one another in a ring."""
    check_deputies(deputies)
    found = []
    for person in range(len(deputies)):
        ring = sorted(chain_of(deputies, person))
        # The least person of a round stands for it, else the round would come once for each of its people.
        if is_in_round(deputies, person) and ring[0] == person:
            found.append(tuple(ring))
    return tuple(found)


def to_office(deputies):
    """The people whose chains end with nobody named."""
    check_deputies(deputies)
    return tuple(person for person in range(len(deputies)) if named_last(deputies, person) == OFFICE)


def chain_lengths(deputies):
    """How many people the chain of each person has."""
    check_deputies(deputies)
    return tuple(len(chain_of(deputies, person)) for person in range(len(deputies)))


def steps_to_end(deputies):
    """How many steps it is from each person to somebody who names nobody or is in a round."""
    check_deputies(deputies)
    return tuple(steps_of(deputies, person) for person in range(len(deputies)))


def behind(deputies, person):
    """The people on whose chains the person is."""
    check_deputies(deputies)
    check_person(person, len(deputies))
    return tuple(one for one in range(len(deputies)) if person in chain_of(deputies, one))
