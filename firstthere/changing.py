"""How few deputies must be changed that duties are held as wanted."""

from firstthere.checks import check_at_most, check_deputies, check_lot, check_wanted, is_integer_and_deputies
from firstthere.deputies import holder_of
from firstthere.listings import all_deputies
from firstthere.sights import MOST_SOUGHT


def change_count(deputies, others):
    return len([one for one, other in zip(deputies, others) if one != other])


def are_held_as_wanted(deputies, gone, wanted):
    return all(holder_of(deputies, gone, person) == by for person, by in wanted)


def changes_to(deputies, found):
    """The pairs (changes, others) of each of the other deputies that were found."""
    return [(change_count(deputies, others), others) for others in found]


def fewest_of(pairs):
    return min(pairs, default=None)


def is_fewest(pairs, size, value):
    """Whether the value is one of the pairs with the fewest changes, or None if there are no pairs."""
    if not pairs:
        return value is None
    return is_integer_and_deputies(value, size) and value in pairs and value[0] == min(pairs)[0]


def changes_for(deputies, gone, wanted):
    """The pairs (changes, others) of all deputies with whom the duties are held as wanted."""
    found = [others for others in all_deputies(len(deputies)) if are_held_as_wanted(others, gone, wanted)]
    return changes_to(deputies, found)


def fewest_changes(deputies, gone, wanted):
    """A pair (changes, deputies): those with the wanted holders that differ for the fewest people, or None."""
    check_deputies(deputies)
    check_lot(gone, len(deputies))
    check_wanted(wanted, len(deputies))
    check_at_most(len(deputies), MOST_SOUGHT)
    return fewest_of(changes_for(deputies, gone, wanted))


def shows_fewest_changes(deputies, gone, wanted, value):
    """Whether the value is such a pair, or None if there is none."""
    check_deputies(deputies)
    check_lot(gone, len(deputies))
    check_wanted(wanted, len(deputies))
    check_at_most(len(deputies), MOST_SOUGHT)
    return is_fewest(changes_for(deputies, gone, wanted), len(deputies), value)
