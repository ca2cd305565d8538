"""Who must leave that somebody holds a duty, or many duties."""

from firstthere.checks import (
    MOST_PEOPLE, check_count, check_deputies, check_holder, check_person, is_integer_and_lot, is_lot)
from firstthere.deputies import ahead_of, duties_of, loads_of
from firstthere.listings import all_lots


def loading_lots(deputies, person, many):
    """The lots without the person that give it at least so many duties, those of fewer people first."""
    lots = [lot for lot in all_lots(len(deputies)) if person not in lot]
    return [lot for lot in lots if len(duties_of(deputies, lot, person)) >= many]


def most_held(deputies, gone):
    """The greatest load of a person: the last load, that of the office, is left out."""
    return max(loads_of(deputies, gone)[:-1])


def loads_and_lots(deputies, many):
    lots = [lot for lot in all_lots(len(deputies)) if len(lot) <= many]
    return [(most_held(deputies, lot), lot) for lot in lots]


def least_gone(deputies, person, other):
    """The one least lot whose leaving gives the person's duty to the other one, or to the office."""
    check_deputies(deputies)
    check_person(person, len(deputies))
    check_holder(other, len(deputies))
    ahead = ahead_of(deputies, person, other)
    if ahead is None:
        return None
    return tuple(sorted(ahead))


def fewest_load(deputies, person, many):
    """The smallest of the least lots, without the person, whose leaving gives it at least so many duties."""
    check_deputies(deputies)
    check_person(person, len(deputies))
    check_count(many, 0, MOST_PEOPLE)
    found = loading_lots(deputies, person, many)
    if not found:
        return None
    return found[0]


def shows_fewest_load(deputies, person, many, value):
    """Whether the value is some least such lot, or None if there is none."""
    check_deputies(deputies)
    check_person(person, len(deputies))
    check_count(many, 0, MOST_PEOPLE)
    found = loading_lots(deputies, person, many)
    if not found:
        return value is None
    return is_lot(value, len(deputies)) and value in found and len(value) == len(found[0])


def load_lots(deputies, person, many):
    """The number of all lots, without the person, whose leaving gives it at least so many duties."""
    check_deputies(deputies)
    check_person(person, len(deputies))
    check_count(many, 0, MOST_PEOPLE)
    return len(loading_lots(deputies, person, many))


def greatest_load(deputies, many):
    """A pair (load, lot): a lot of at most so many whose leaving gives some person most duties."""
    check_deputies(deputies)
    check_count(many, 0, MOST_PEOPLE)
    return max(loads_and_lots(deputies, many))


def shows_greatest_load(deputies, many, value):
    """Whether the value is such a pair."""
    check_deputies(deputies)
    check_count(many, 0, MOST_PEOPLE)
    found = loads_and_lots(deputies, many)
    return is_integer_and_lot(value, len(deputies)) and value in found and value[0] == max(found)[0]
