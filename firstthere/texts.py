"""Deputies as a text, such as `0>1 1>- 2>0`."""

from firstthere.checks import OFFICE, check_deputies, check_text
from firstthere.errors import InvalidText
from firstthere.signs import END, is_sign, read_person, read_sign, signs_of


def written(person, deputy):
    if deputy == OFFICE:
        return f"{person}>-"
    return f"{person}>{deputy}"


def read_deputy(sign, person):
    if is_sign(sign, "-"):
        return OFFICE
    return read_person(sign, [person])


def in_a_row(named, place):
    """The deputies, if each person that is named, and each less than one named, has one; the place is the end's."""
    people = list(range(max(list(named) + list(named.values()), default=0) + 1))
    if sorted(named) != people:
        raise InvalidText(place)
    return tuple(named[person] for person in people)


def write_deputies(deputies):
    """The text that names the deputies."""
    check_deputies(deputies)
    return " ".join([written(person, deputy) for person, deputy in enumerate(deputies)])


def read_deputies(text):
    """The deputies that a text names."""
    check_text(text)
    signs = signs_of(text)
    named = {}
    at = 0
    while not is_sign(signs[at], END):
        person = read_person(signs[at], list(named))
        read_sign(signs[at + 1], ">")
        named[person] = read_deputy(signs[at + 2], person)
        at += 3
    return in_a_row(named, len(text))
