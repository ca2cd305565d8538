"""Duties of unlike sizes: how much each person holds, and which lots can leave within limits.

The functions whose names end with `_of` are for the package: they check nothing.
"""

from firstthere.checks import (
    OFFICE, check_deputies, check_limits, check_lot, check_sizes, is_integer_and_lot)
from firstthere.deputies import holders_of
from firstthere.listings import all_lots


def sized_loads_of(deputies, sizes, gone):
    held = holders_of(deputies, gone)
    each = list(range(len(deputies))) + [OFFICE]
    return tuple(sum([sizes[duty] for duty, by in enumerate(held) if by == one]) for one in each)


def can_leave_of(deputies, sizes, limits, gone):
    # A duty of size 0 is with the office, too, though it adds nothing to its load.
    if OFFICE in holders_of(deputies, gone):
        return False
    loads = sized_loads_of(deputies, sizes, gone)
    return all(loads[person] <= limits[person] for person in range(len(deputies)))


def numbers_and_lots(deputies, sizes, limits):
    lots = [lot for lot in all_lots(len(deputies)) if can_leave_of(deputies, sizes, limits, lot)]
    return [(len(lot), lot) for lot in lots]


def check_sizes_and_limits(deputies, sizes, limits):
    check_deputies(deputies)
    check_sizes(sizes, len(deputies))
    check_limits(limits, len(deputies))


def sized_loads(deputies, sizes, gone):
    """The sums of the sizes of the duties that 0, 1, .. and, last, the office hold."""
    check_deputies(deputies)
    check_sizes(sizes, len(deputies))
    check_lot(gone, len(deputies))
    return sized_loads_of(deputies, sizes, gone)


def can_leave(deputies, sizes, limits, gone):
    """Whether, when the lot has left, no duty is with the office and nobody holds more than its limit."""
    check_sizes_and_limits(deputies, sizes, limits)
    check_lot(gone, len(deputies))
    return can_leave_of(deputies, sizes, limits, gone)


def largest_leave(deputies, sizes, limits):
    """A pair (number, lot): a lot of the most people with whom this is so, or None."""
    check_sizes_and_limits(deputies, sizes, limits)
    return max(numbers_and_lots(deputies, sizes, limits), default=None)


def shows_largest_leave(deputies, sizes, limits, value):
    """Whether the value is such a pair, or None if there is none."""
    check_sizes_and_limits(deputies, sizes, limits)
    found = numbers_and_lots(deputies, sizes, limits)
    if not found:
        return value is None
    return is_integer_and_lot(value, len(deputies)) and value in found and value[0] == max(found)[0]


def leave_count(deputies, sizes, limits):
    """The number of all lots with whom it is so."""
    check_sizes_and_limits(deputies, sizes, limits)
    return len(numbers_and_lots(deputies, sizes, limits))
