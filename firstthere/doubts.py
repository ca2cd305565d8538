"""By what chance a person has which deputy, and whose duty is held by whom, after what was seen.

All deputies with whom the sights were so are as likely.
"""

from firstthere.checks import OFFICE, check_at_most, check_lot, check_person, check_sights, check_size
from firstthere.deputies import holder_of
from firstthere.ratios import ratio
from firstthere.sights import MOST_SOUGHT, fitting_of


def shares(size, named):
    """The chances of 0, 1, .. and, last, of -1 among those named, None if there are none."""
    if not named:
        return None
    each = list(range(size)) + [OFFICE]
    return tuple(ratio(named.count(one), len(named)) for one in each)


def deputy_chances(size, sights, person):
    """The chances that the person's deputy is 0, 1, .. and, last, nobody; None if no deputies fit."""
    check_size(size)
    check_sights(sights, size)
    check_person(person, size)
    check_at_most(size, MOST_SOUGHT)
    return shares(size, [deputies[person] for deputies in fitting_of(size, sights)])


def holder_chances(size, sights, gone, person):
    """The chances that 0, 1, .. and, last, the office hold the person's duty when the lot has left, or None."""
    check_size(size)
    check_sights(sights, size)
    check_lot(gone, size)
    check_person(person, size)
    check_at_most(size, MOST_SOUGHT)
    return shares(size, [holder_of(deputies, gone, person) for deputies in fitting_of(size, sights)])
