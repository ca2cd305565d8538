"""Who must stay that no duty comes to the office."""

from firstthere.checks import OFFICE, check_deputies, is_lot
from firstthere.deputies import chain_of, holders_of
from firstthere.listings import all_lots, lots_of


def is_kept(deputies, lot, person):
    return any(one in lot for one in chain_of(deputies, person))


def are_keepers(deputies, lot):
    return all(is_kept(deputies, lot, person) for person in range(len(deputies)))


def keeping_lots(deputies):
    """All lots of keepers, those of fewer people first."""
    return [lot for lot in all_lots(len(deputies)) if are_keepers(deputies, lot)]


def least_keepers(deputies):
    """The least lots of keepers, ascending."""
    found = keeping_lots(deputies)
    return [lot for lot in found if len(lot) == len(found[0])]


def are_apart(deputies, people):
    met = [one for person in people for one in chain_of(deputies, person)]
    return len(set(met)) == len(met)


def lots_apart(deputies):
    """The lots of as many people as a least lot of keepers, no two of whose chains meet."""
    many = len(least_keepers(deputies)[0])
    return [lot for lot in lots_of(len(deputies), many) if are_apart(deputies, lot)]


def keepers(deputies):
    """The smallest of the least lots of keepers."""
    check_deputies(deputies)
    return least_keepers(deputies)[0]


def shows_keepers(deputies, value):
    """Whether the value is some least lot of keepers."""
    check_deputies(deputies)
    return is_lot(value, len(deputies)) and value in least_keepers(deputies)


def keeper_count(deputies):
    """The number of least lots of keepers."""
    check_deputies(deputies)
    return len(least_keepers(deputies))


def apart_chains(deputies):
    """As many people as there are in a least lot of keepers, no two of whose chains meet."""
    check_deputies(deputies)
    # There always are some: one of each round, and all who name nobody.
    return lots_apart(deputies)[0]


def shows_apart_chains(deputies, value):
    """Whether the value is a tuple of such people."""
    check_deputies(deputies)
    return is_lot(value, len(deputies)) and value in lots_apart(deputies)


def safe_count(deputies):
    """The number of lots by whose leaving no duty comes to the office."""
    check_deputies(deputies)
    return len([lot for lot in all_lots(len(deputies)) if OFFICE not in holders_of(deputies, lot)])
