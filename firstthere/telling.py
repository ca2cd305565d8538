"""Which lots tell all deputies apart, by who holds whose duty when each of them has left."""

from itertools import combinations

from firstthere.checks import OFFICE, are_deputies_of, check_at_most, check_deputies, check_lots, check_size, is_pair
from firstthere.deputies import holders_of
from firstthere.listings import all_lots, put_at
from firstthere.sights import MOST_SOUGHT, fitting_of


def pairs_to_tell(size, person):
    """The pairs of deputies of the person that must be told apart; if there is one other only, it and nobody."""
    others = [one for one in range(size) if one != person]
    if len(others) == 1:
        return [(others[0], OFFICE)]
    return list(combinations(others, 2))


def is_told_apart(lots, person, pair):
    return any(person in lot and pair[0] not in lot and pair[1] not in lot for lot in lots)


def first_not_told(size, lots):
    """A person and a pair of its deputies that no lot tells apart, None if there is none."""
    for person in range(size):
        for pair in pairs_to_tell(size, person):
            if not is_told_apart(lots, person, pair):
                return (person, pair)
    return None


def are_all_told(size, lots):
    return first_not_told(size, lots) is None


def made_unlike(size, person, pair):
    """Deputies that differ for the person alone, in holders only if it left and neither of the pair did."""
    one, other = pair
    named = put_at((OFFICE,) * size, one, other)
    if other != OFFICE:
        # Whoever of the two is there then holds the duty that comes to either of them.
        named = put_at(named, other, one)
    return tuple(sorted([put_at(named, person, one), put_at(named, person, other)]))


def have_same_holders(one, other, lots):
    return all(holders_of(one, lot) == holders_of(other, lot) for lot in lots)


def some_tell_all(size, many):
    lots = all_lots(size)
    return any([are_all_told(size, chosen) for chosen in combinations(lots, many)])


def tells_all(size, lots):
    """Whether no two unlike deputies have the same holders for each of the lots."""
    check_size(size)
    check_lots(lots, size)
    return are_all_told(size, lots)


def unlike_ones(size, lots):
    """An ascending pair of unlike deputies with the same holders for each of the lots, None if there is none."""
    check_size(size)
    check_lots(lots, size)
    found = first_not_told(size, lots)
    if found is None:
        return None
    person, pair = found
    return made_unlike(size, person, pair)


def shows_unlike_ones(size, lots, value):
    """Whether the value is such a pair, or None if there is none."""
    check_size(size)
    check_lots(lots, size)
    if value is None:
        return are_all_told(size, lots)
    if not is_pair(value) or not are_deputies_of(value[0], size) or not are_deputies_of(value[1], size):
        return False
    return value[0] < value[1] and have_same_holders(value[0], value[1], lots)


def least_tellers(size):
    """The least number of lots that tell all."""
    check_size(size)
    check_at_most(size, MOST_SOUGHT)
    many = 0
    while not some_tell_all(size, many):
        many += 1
    return many


def told_by(deputies, lots):
    """Whether no other deputies have the same holders for each of the lots."""
    check_deputies(deputies)
    check_lots(lots, len(deputies))
    check_at_most(len(deputies), MOST_SOUGHT)
    sights = [(lot, holders_of(deputies, lot)) for lot in lots]
    return len(fitting_of(len(deputies), sights)) == 1
