"""How a text is read sign by sign: a longest row of digits is one sign, any other character but a space is one.

This file is for the package.
"""

from firstthere.errors import InvalidText

DIGITS = "0123456789"
PEOPLE = ("0", "1", "2", "3", "4", "5")
# Behind the last sign comes this one, so that a text that ends too early ends with a sign that is not allowed.
END = ""


def behind_row(text, start, characters):
    """The place behind the longest row of such characters that begins at a place."""
    at = start
    while at < len(text) and text[at] in characters:
        at += 1
    return at


def signs_of(text):
    """The signs of the text and the end, each with its place."""
    found = []
    at = behind_row(text, 0, " ")
    while at < len(text):
        behind = max(behind_row(text, at, DIGITS), at + 1)
        found.append((text[at:behind], at))
        at = behind_row(text, behind, " ")
    return found + [(END, len(text))]


def is_sign(sign, word):
    return sign[0] == word


def read_sign(sign, word):
    if not is_sign(sign, word):
        raise InvalidText(sign[1])


def read_person(sign, barred):
    """The person that the sign names, who must be none of the barred ones."""
    word, place = sign
    if word not in PEOPLE or int(word) in barred:
        raise InvalidText(place)
    return int(word)
