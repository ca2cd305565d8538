"""Who holds whose duty from which date to which, if each person leaves on a date.

The functions whose names end with `_of` are for the package: they check nothing.
"""

from firstthere.checks import check_dates, check_dates_alone, check_deputies, check_person
from firstthere.deputies import chain_of
from firstthere.leaving import handings_of
from firstthere.needed import most_held


def order_by_of(dates):
    return tuple(person for _, person in sorted([(date, person) for person, date in enumerate(dates)]))


def spans_of(deputies, dates, person):
    found = []
    since = 0
    # All leave in the end, so that the last one to hold the duty is the office.
    for by in handings_of(deputies, order_by_of(dates), person)[:-1]:
        if since < dates[by]:
            found.append((by, since, dates[by]))
        since = dates[by]
    return tuple(found)


def loads_and_dates(deputies, dates):
    """The pairs (load, date): the greatest load of a person at first and behind each leaving."""
    order = order_by_of(dates)
    behind = [(most_held(deputies, order[:at + 1]), dates[person]) for at, person in enumerate(order)]
    return [(most_held(deputies, ()), 0)] + behind


def order_by(dates):
    """The order in which people leave on these dates, of those with one date the lesser one first."""
    check_dates_alone(dates)
    return order_by_of(dates)


def spans(deputies, dates, person):
    """The triples (holder, from, to) of the people who hold the person's duty, and between which dates."""
    check_deputies(deputies)
    check_dates(dates, len(deputies))
    check_person(person, len(deputies))
    return spans_of(deputies, dates, person)


def out_date(deputies, dates, person):
    """The date on which the person's duty comes to the office."""
    check_deputies(deputies)
    check_dates(dates, len(deputies))
    check_person(person, len(deputies))
    return max(dates[one] for one in chain_of(deputies, person))


def duty_days(deputies, dates):
    """For how long 0, 1, .. hold duties, the times for all duties summed up."""
    check_deputies(deputies)
    check_dates(dates, len(deputies))
    people = list(range(len(deputies)))
    found = [span for duty in people for span in spans_of(deputies, dates, duty)]
    return tuple(sum([until - since for by, since, until in found if by == person]) for person in people)


def busiest_date(deputies, dates):
    """The pair (load, date) of the greatest load of a person, and the earliest date of such."""
    check_deputies(deputies)
    check_dates(dates, len(deputies))
    found = loads_and_dates(deputies, dates)
    most = max(found)[0]
    return (most, min([date for load, date in found if load == most]))
