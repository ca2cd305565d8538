"""Which deputies there may be, after what was seen of the holders or of their loads.

The functions whose names end with `_of` are for the package: they check nothing.
"""

from firstthere.checks import (
    check_at_most, check_deputies, check_load_sights, check_lot, check_sights, check_size)
from firstthere.deputies import holders_of, loads_of
from firstthere.listings import all_deputies

MOST_SOUGHT = 4


def fits_of(deputies, sights):
    return all(holders_of(deputies, gone) == held for gone, held in sights)


def fitting_of(size, sights):
    return tuple(deputies for deputies in all_deputies(size) if fits_of(deputies, sights))


def has_loads(deputies, sights):
    return all(loads_of(deputies, gone) == seen for gone, seen in sights)


def sure_deputy(found, person):
    named = [deputies[person] for deputies in found]
    if len(set(named)) == 1:
        return named[0]
    return None


def fitting(size, sights):
    """All deputies with whom the sights are so, ascending."""
    check_size(size)
    check_sights(sights, size)
    check_at_most(size, MOST_SOUGHT)
    return fitting_of(size, sights)


def fits(deputies, sights):
    """Whether the sights are so with these deputies."""
    check_deputies(deputies)
    check_sights(sights, len(deputies))
    return fits_of(deputies, sights)


def sure_deputies(size, sights):
    """For each person, the deputy that it has in all deputies that fit, None if they differ or none fit."""
    check_size(size)
    check_sights(sights, size)
    check_at_most(size, MOST_SOUGHT)
    found = fitting_of(size, sights)
    return tuple(sure_deputy(found, person) for person in range(size))


def next_seen(size, sights, gone):
    """All holders that those deputies that fit have when the lot has left, ascending, each once."""
    check_size(size)
    check_sights(sights, size)
    check_lot(gone, size)
    check_at_most(size, MOST_SOUGHT)
    return tuple(sorted({holders_of(deputies, gone) for deputies in fitting_of(size, sights)}))


def first_against(size, sights):
    """The least number of sights, from the first one on, that no deputies fit, None if some fit all."""
    check_size(size)
    check_sights(sights, size)
    check_at_most(size, MOST_SOUGHT)
    for many in range(1, len(sights) + 1):
        if len(fitting_of(size, sights[:many])) == 0:
            return many
    return None


def fitting_loads(size, sights):
    """All deputies with the loads that were seen, ascending."""
    check_size(size)
    check_load_sights(sights, size)
    check_at_most(size, MOST_SOUGHT)
    return tuple(deputies for deputies in all_deputies(size) if has_loads(deputies, sights))
