"""Who holds whose duty by chance, all whole orders of leaving being as likely.

The functions whose names end with `_of` are for the package: they check nothing.
"""

from firstthere.checks import OFFICE, check_count, check_deputies, check_holder, check_person
from firstthere.deputies import ahead_of, chain_of, holder_of, loads_of
from firstthere.listings import lots_of
from firstthere.ratios import NONE_AT_ALL, SURE, ratio, sum_of


def ever_chance_of(deputies, person, other):
    if other == OFFICE:
        return SURE
    ahead = ahead_of(deputies, person, other)
    if ahead is None:
        return NONE_AT_ALL
    # The other one holds it if it leaves last of those ahead and itself.
    return (1, len(ahead) + 1)


def record_counts(length):
    """The numbers of orders of so many people with 0, 1, 2, .. records: people later than all ahead of them."""
    counts = [1]
    for ahead in range(length):
        # The next one comes behind any number of those ahead; only behind all of them it is a record.
        without = [count * ahead for count in counts] + [0]
        with_one_more = [0] + counts
        counts = [one + other for one, other in zip(without, with_one_more)]
    return counts


def hold_chance_of(deputies, many, person, other):
    held = [holder_of(deputies, lot, person) for lot in lots_of(len(deputies), many)]
    return ratio(held.count(other), len(held))


def ever_chance(deputies, person, other):
    """The chance that the other one, or the office, ever holds the person's duty."""
    check_deputies(deputies)
    check_person(person, len(deputies))
    check_holder(other, len(deputies))
    return ever_chance_of(deputies, person, other)


def handing_chances(deputies, person):
    """The chances that the person's duty is handed on 0, 1, 2, .. times in a whole order."""
    check_deputies(deputies)
    check_person(person, len(deputies))
    counts = record_counts(len(chain_of(deputies, person)))
    return tuple(ratio(count, sum(counts)) for count in counts)


def mean_handings(deputies):
    """The mean number of handings of all duties together, in a whole order."""
    check_deputies(deputies)
    # Each person who ever holds a duty hands it on just once.
    people = list(range(len(deputies)))
    return sum_of([ever_chance_of(deputies, person, other) for person in people for other in people])


def hold_chance(deputies, many, person, other):
    """The chance that the other one, or the office, holds the person's duty when so many have left."""
    check_deputies(deputies)
    check_count(many, 0, len(deputies))
    check_person(person, len(deputies))
    check_holder(other, len(deputies))
    return hold_chance_of(deputies, many, person, other)


def mean_loads(deputies, many):
    """The mean numbers of duties that 0, 1, .. and, last, the office hold when so many have left."""
    check_deputies(deputies)
    check_count(many, 0, len(deputies))
    rows = [loads_of(deputies, lot) for lot in lots_of(len(deputies), many)]
    return tuple(ratio(sum(row[place] for row in rows), len(rows)) for place in range(len(deputies) + 1))


def together_chance(deputies, many, one, other):
    """The chance that one and the same person, or the office, holds both duties when so many have left."""
    check_deputies(deputies)
    check_count(many, 0, len(deputies))
    check_person(one, len(deputies))
    check_person(other, len(deputies))
    lots = lots_of(len(deputies), many)
    together = [lot for lot in lots if holder_of(deputies, lot, one) == holder_of(deputies, lot, other)]
    return ratio(len(together), len(lots))
