"""Namings that fulfil most wishes, nobody being named too often, and papers that show that none fulfils more."""

from firstthere.checks import (
    MOST_PEOPLE, OFFICE, check_at_most, check_count, check_deputies, check_size, check_table, check_wishes,
    is_integer_and_deputies, is_pair)
from firstthere.listings import put_at
from firstthere.ratios import are_amounts, are_ratios, is_at_least, sum_of
from firstthere.worths import mean_worth_of, worths_sum_of

MOST_ON_PAPER = 5


def wishes_sum(wishes, deputies):
    # The wish for nobody stands last in each row, where its number -1 finds it.
    return sum(wishes[person][deputies[person]] for person in range(len(deputies)))


def are_named_within(deputies, most):
    return all(deputies.count(person) <= most for person in range(len(deputies)))


def rooms_and_deputies(room, person):
    """Whom the person can name while each may be named so often, and how often each may be named then."""
    found = [(room, OFFICE)]
    for deputy in range(len(room)):
        if deputy != person and room[deputy] > 0:
            found.append((put_at(room, deputy, room[deputy] - 1), deputy))
    return found


def best_with_one_more(best, wishes, person):
    """For each room that is left, the best pair (sum, deputies) when this person has named its deputy, too."""
    found = {}
    for room, (total, named) in best.items():
        for left, deputy in rooms_and_deputies(room, person):
            pair = (total + wishes[person][deputy], (*named, deputy))
            found[left] = max(pair, found.get(left, pair))
    return found


def best_within(wishes, room):
    """The best pair (sum, deputies) if 0, 1, .. may be named so often."""
    best = {room: (0, ())}
    for person in range(len(wishes)):
        best = best_with_one_more(best, wishes, person)
    return max(best.values())


def best_naming_of(wishes, most):
    return best_within(wishes, (most,) * len(wishes))


def price_of(wishes, most, deputy):
    """What it would add to the greatest sum if this one might be named once more."""
    room = (most,) * len(wishes)
    return best_within(wishes, put_at(room, deputy, most + 1))[0] - best_within(wishes, room)[0]


def gain_of(wishes, prices, person):
    """The most that is left of a wish of the person when the price of the deputy is paid."""
    others = [deputy for deputy in range(len(wishes)) if deputy != person]
    return max([wishes[person][OFFICE]] + [wishes[person][deputy] - prices[deputy] for deputy in others])


def are_wishes_covered(wishes, paper, person):
    gains, prices = paper
    others = [deputy for deputy in range(len(wishes)) if deputy != person]
    if not is_at_least(gains[person], wishes[person][OFFICE]):
        return False
    return all(is_at_least(sum_of([gains[person], prices[deputy]]), wishes[person][deputy]) for deputy in others)


def deputies_near(deputies):
    """All deputies that differ from these for at most one person."""
    found = [deputies]
    for person in range(len(deputies)):
        for deputy in range(OFFICE, len(deputies)):
            if deputy != person:
                found.append(put_at(deputies, person, deputy))
    return found


def best_near(deputies, table, many):
    """Those of the greatest mean worth that differ for at most one person."""
    # All have the same number of lots, so that their sums compare as their means do.
    found = [(worths_sum_of(others, table, many), others) for others in deputies_near(deputies)]
    return max(found)[1]


def best_naming(size, wishes, most):
    """A pair (sum, deputies): the greatest sum of the wishes, nobody being the deputy of more than so many."""
    check_size(size)
    check_wishes(wishes, size)
    check_count(most, 1, MOST_PEOPLE)
    return best_naming_of(wishes, most)


def shows_best_naming(size, wishes, most, value):
    """Whether the value is such a pair."""
    check_size(size)
    check_wishes(wishes, size)
    check_count(most, 1, MOST_PEOPLE)
    if not is_integer_and_deputies(value, size) or not are_named_within(value[1], most):
        return False
    return value[0] == wishes_sum(wishes, value[1]) == best_naming_of(wishes, most)[0]


def naming_paper(size, wishes, most):
    """A pair of tuples of ratios, for who names and for deputies, that no sum of the wishes is greater."""
    check_size(size)
    check_wishes(wishes, size)
    check_count(most, 1, MOST_PEOPLE)
    check_at_most(size, MOST_ON_PAPER)
    prices = [price_of(wishes, most, deputy) for deputy in range(size)]
    gains = [gain_of(wishes, prices, person) for person in range(size)]
    return (tuple((gain, 1) for gain in gains), tuple((price, 1) for price in prices))


def shows_naming_paper(size, wishes, most, value):
    """Whether the value is such a pair."""
    check_size(size)
    check_wishes(wishes, size)
    check_count(most, 1, MOST_PEOPLE)
    check_at_most(size, MOST_ON_PAPER)
    if not is_pair(value) or not are_ratios(value[0], size) or not are_amounts(value[1], size):
        return False
    if sum_of(value[0] + value[1] * most) != (best_naming_of(wishes, most)[0], 1):
        return False
    return all(are_wishes_covered(wishes, value, person) for person in range(size))


def best_change(deputies, table, many):
    """The greatest mean worth of deputies that differ from these for at most one person."""
    check_deputies(deputies)
    check_table(table, len(deputies))
    check_count(many, 0, len(deputies))
    return mean_worth_of(best_near(deputies, table, many), table, many)


def is_settled(deputies, table, many):
    """Whether these deputies have it themselves."""
    check_deputies(deputies)
    check_table(table, len(deputies))
    check_count(many, 0, len(deputies))
    return mean_worth_of(deputies, table, many) == mean_worth_of(best_near(deputies, table, many), table, many)
