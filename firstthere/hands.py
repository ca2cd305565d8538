"""Two hands let people leave by turns: one wants a duty to come to the office late, the other one early."""

from firstthere.checks import OFFICE, check_deputies, check_lot, check_person
from firstthere.deputies import holder_of
from firstthere.errors import IsOut


def those_there(deputies, gone):
    return [person for person in range(len(deputies)) if person not in gone]


def best_end(deputies, gone, person, is_late):
    """Behind how many leavings the duty comes to the office if the hand to move wants it late, or else early."""
    if holder_of(deputies, gone, person) == OFFICE:
        return len(gone)
    ends = [best_end(deputies, (*gone, one), person, not is_late) for one in those_there(deputies, gone)]
    if is_late:
        return max(ends)
    return min(ends)


def can_be_given(deputies, gone, person, other, is_wanted):
    """Whether the other one comes to hold the duty; the hand to move wants it, or else hinders it."""
    held = holder_of(deputies, gone, person)
    if held in (other, OFFICE):
        return held == other
    found = []
    for one in those_there(deputies, gone):
        found.append(can_be_given(deputies, (*gone, one), person, other, not is_wanted))
    if is_wanted:
        return any(found)
    return all(found)


def late_end(deputies, person):
    """Behind how many leavings the duty comes to the office if the first hand wants it late, the second early."""
    check_deputies(deputies)
    check_person(person, len(deputies))
    return best_end(deputies, (), person, True)


def early_end(deputies, person):
    """Behind how many leavings the duty comes to the office if the first hand wants it early, the second late."""
    check_deputies(deputies)
    check_person(person, len(deputies))
    return best_end(deputies, (), person, False)


def late_moves(deputies, gone, person):
    """Whom the hand that wants it late, and is to move, can let leave without its coming earlier."""
    check_deputies(deputies)
    check_lot(gone, len(deputies))
    check_person(person, len(deputies))
    if holder_of(deputies, gone, person) == OFFICE:
        raise IsOut("the office holds the duty already")
    ends = [(one, best_end(deputies, (*gone, one), person, False)) for one in those_there(deputies, gone)]
    latest = max([end for _, end in ends])
    return tuple(one for one, end in ends if end == latest)


def wins_duty(deputies, person, other):
    """Whether the first hand can make the other person hold the person's duty, the second one hindering it."""
    check_deputies(deputies)
    check_person(person, len(deputies))
    check_person(other, len(deputies))
    return can_be_given(deputies, (), person, other, True)
