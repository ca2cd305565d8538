"""Lots as a text, such as `0 2 / - / 1`."""

from firstthere.checks import MOST_LOTS, MOST_PEOPLE, check_lots, check_text
from firstthere.errors import InvalidText
from firstthere.signs import END, is_sign, read_person, read_sign, signs_of


def written(lot):
    if not lot:
        return "-"
    return " ".join([str(person) for person in lot])


def read_lot(signs, start):
    """The lot that begins at the sign of such an index, and the index of the first sign behind it."""
    if is_sign(signs[start], "-"):
        return ((), start + 1)
    people = [read_person(signs[start], ())]
    at = start + 1
    while not is_sign(signs[at], "/") and not is_sign(signs[at], END):
        people.append(read_person(signs[at], people))
        at += 1
    return (tuple(sorted(people)), at)


def check_room(found, sign):
    """One lot more may begin only if there are less than thirty."""
    if len(found) == MOST_LOTS:
        raise InvalidText(sign[1])


def write_lots(lots):
    """The text that names the lots."""
    check_lots(lots, MOST_PEOPLE)
    return " / ".join([written(lot) for lot in lots])


def read_lots(text):
    """The lots that a text names."""
    check_text(text)
    signs = signs_of(text)
    if is_sign(signs[0], END):
        return ()
    lot, at = read_lot(signs, 0)
    found = [lot]
    while not is_sign(signs[at], END):
        read_sign(signs[at], "/")
        check_room(found, signs[at + 1])
        lot, at = read_lot(signs, at + 1)
        found.append(lot)
    return tuple(found)
