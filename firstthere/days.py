"""Who holds the duties on days on which lots are away, and how people can be parted into such days."""

from firstthere.checks import (
    MOST_PEOPLE, OFFICE, check_count, check_deputies, check_lots, is_integer_and_lot, is_lot)
from firstthere.deputies import holders_of, loads_of
from firstthere.listings import all_lots, lots_of, put_at
from firstthere.needed import most_held


def partings_with(parting, person):
    """The partings that there are with one person more, on a day of its own or on one of these days."""
    found = [(*parting, (person,))]
    for at in range(len(parting)):
        found.append(put_at(parting, at, (*parting[at], person)))
    return found


def all_partings(size):
    """All partings of the people into days; people come ascending, so that the lots of each are ascending, too."""
    found = [()]
    for person in range(size):
        found = [longer for parting in found for longer in partings_with(parting, person)]
    return found


def can_be_away(deputies, most, lot):
    return OFFICE not in holders_of(deputies, lot) and most_held(deputies, lot) <= most


def are_among(parting, lots):
    return all(lot in lots for lot in parting)


def fewest_day_partings(deputies, most):
    """The partings into the least number of days on which the lots can be away so, none if it cannot be."""
    lots = [lot for lot in all_lots(len(deputies)) if can_be_away(deputies, most, lot)]
    found = [parting for parting in all_partings(len(deputies)) if are_among(parting, lots)]
    fewest = min([len(parting) for parting in found], default=0)
    return [parting for parting in found if len(parting) == fewest]


def loads_and_lots_of(deputies, many):
    return [(most_held(deputies, lot), lot) for lot in lots_of(len(deputies), many)]


def plan(deputies, days):
    """The holders on all days."""
    check_deputies(deputies)
    check_lots(days, len(deputies))
    return tuple(holders_of(deputies, lot) for lot in days)


def day_sums(deputies, days):
    """The numbers of duties of 0, 1, .. and, last, of the office, all days together."""
    check_deputies(deputies)
    check_lots(days, len(deputies))
    rows = [loads_of(deputies, lot) for lot in days]
    return tuple(sum([row[place] for row in rows]) for place in range(len(deputies) + 1))


def fewest_days(deputies, most):
    """The least number of days into which all can be parted, nobody holding more duties than so many, or None."""
    check_deputies(deputies)
    check_count(most, 1, MOST_PEOPLE)
    found = fewest_day_partings(deputies, most)
    if not found:
        return None
    return len(found[0])


def day_parting(deputies, most):
    """A tuple of so many days, or None."""
    check_deputies(deputies)
    check_count(most, 1, MOST_PEOPLE)
    found = fewest_day_partings(deputies, most)
    if not found:
        return None
    return found[0]


def shows_day_parting(deputies, most, value):
    """Whether the value is a tuple of such days, or None if there is none."""
    check_deputies(deputies)
    check_count(most, 1, MOST_PEOPLE)
    found = fewest_day_partings(deputies, most)
    if not found:
        return value is None
    if not isinstance(value, tuple) or not all(is_lot(lot, len(deputies)) for lot in value):
        return False
    return value in found


def fair_lot(deputies, many):
    """A pair (load, lot): a lot of just so many whose leaving makes the greatest load of a person least."""
    check_deputies(deputies)
    check_count(many, 0, len(deputies))
    return min(loads_and_lots_of(deputies, many))


def shows_fair_lot(deputies, many, value):
    """Whether the value is such a pair."""
    check_deputies(deputies)
    check_count(many, 0, len(deputies))
    found = loads_and_lots_of(deputies, many)
    return is_integer_and_lot(value, len(deputies)) and value in found and value[0] == min(found)[0]
