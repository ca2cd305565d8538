"""All that there is of a size, in a fixed order, and how one row of things is made from another.

This file is for the package.
"""

from itertools import combinations

from firstthere.checks import OFFICE


def put_at(row, place, thing):
    """The row with another thing at a place."""
    return (*row[:place], thing, *row[place + 1:])


def lots_of(size, many):
    """The lots of just so many people, ascending."""
    return list(combinations(range(size), many))


def all_lots(size):
    """All lots, those of fewer people first, those of equally many ascending."""
    return [lot for many in range(size + 1) for lot in combinations(range(size), many)]


def all_deputies(size):
    """All deputies, ascending."""
    found = [()]
    for person in range(size):
        found = [(*named, deputy) for named in found for deputy in range(OFFICE, size) if deputy != person]
    return found
