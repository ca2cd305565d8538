"""What values are allowed: an `is_` or `are_` function asks, a `check_` function raises the error."""

from firstthere.errors import (
    BadCosts, BadCount, BadDates, BadDeputies, BadLimits, BadLot, BadLots, BadOrder, BadPerson, BadPlaces, BadSights,
    BadSize, BadSizes, BadTable, BadTold, BadWanted, BadWeights, BadWishes, NotText, TooMany)

OFFICE = -1
MOST_PEOPLE = 6
MOST_WEIGHT = 60
MOST_COST = 1000
MOST_DATE = 1000
MOST_SIZE = 1000
MOST_LIMIT = 6000
MOST_SIGHTS = 8
MOST_LOTS = 30
MOST_WORTH = 100
MOST_COUNTED = 60


def is_plain_integer(value):
    # To Python a boolean is an integer, too; the document says that it is none.
    return isinstance(value, int) and not isinstance(value, bool)


def is_integer_from(value, least, most):
    return is_plain_integer(value) and least <= value <= most


def are_integers_from(value, many, least, most):
    if not isinstance(value, tuple) or len(value) != many:
        return False
    return all(is_integer_from(each, least, most) for each in value)


def is_pair(value):
    return isinstance(value, tuple) and len(value) == 2


def is_person(value, size):
    return is_integer_from(value, 0, size - 1)


def is_holder(value, size):
    return is_integer_from(value, OFFICE, size - 1)


def is_deputies(value):
    if not isinstance(value, tuple) or not 1 <= len(value) <= MOST_PEOPLE:
        return False
    return all(is_holder(value[person], len(value)) and value[person] != person for person in range(len(value)))


def are_deputies_of(value, size):
    return is_deputies(value) and len(value) == size


def are_unlike_holders(value, size):
    # The kinds come first: only integers are sure to be taken by a set.
    if not isinstance(value, tuple) or not all(is_holder(each, size) for each in value):
        return False
    return len(set(value)) == len(value)


def is_order(value, size):
    return are_unlike_holders(value, size) and OFFICE not in value


def is_whole_order(value, size):
    return is_order(value, size) and len(value) == size


def is_lot(value, size):
    return is_order(value, size) and list(value) == sorted(value)


def are_holders_in_time(value, size):
    return are_unlike_holders(value, size) and len(value) > 0 and OFFICE not in value[:-1]


def is_told_pair(value, size):
    return is_pair(value) and is_person(value[0], size) and are_holders_in_time(value[1], size)


def is_wanted_pair(value, size):
    return is_pair(value) and is_person(value[0], size) and is_holder(value[1], size)


def is_behind_others(value, index):
    """Whether the pair's person is behind that of the pair before, which is known to be a pair."""
    return index == 0 or value[index - 1][0] < value[index][0]


def are_rows_of_worths(value, size):
    """For each person a row of integers: those of 0, 1, .. and, last, of nobody or the office."""
    if not isinstance(value, tuple) or len(value) != size:
        return False
    return all(are_integers_from(row, size + 1, -MOST_WORTH, MOST_WORTH) for row in value)


def is_integer_and_lot(value, size):
    return is_pair(value) and is_plain_integer(value[0]) and is_lot(value[1], size)


def is_integer_and_whole_order(value, size):
    return is_pair(value) and is_plain_integer(value[0]) and is_whole_order(value[1], size)


def is_integer_and_deputies(value, size):
    return is_pair(value) and is_plain_integer(value[0]) and are_deputies_of(value[1], size)


def is_lot_and_integers(value, size, many, least, most):
    return is_pair(value) and is_lot(value[0], size) and are_integers_from(value[1], many, least, most)


def check_deputies(value):
    if not is_deputies(value):
        raise BadDeputies("deputies are 1 to 6 integers in a tuple, each another person or -1")


def check_deputies_of(value, size):
    if not are_deputies_of(value, size):
        raise BadDeputies("these deputies are of another size, or none at all")


def check_lot(value, size):
    if not is_lot(value, size):
        raise BadLot("a lot is an ascending tuple of unlike people")


def check_person(value, size):
    if not is_person(value, size):
        raise BadPerson("a person is an integer from 0 to less than the number of people")


def check_holder(value, size):
    if not is_holder(value, size):
        raise BadPerson("a holder is a person, or -1 for the office")


def check_order(value, size):
    if not is_order(value, size):
        raise BadOrder("an order is a tuple of unlike people")


def check_whole_order(value, size):
    if not is_whole_order(value, size):
        raise BadOrder("a whole order is a tuple of all people, each once")


def check_told(value, size):
    if not isinstance(value, tuple):
        raise BadTold(None)
    for index in range(len(value)):
        if not is_told_pair(value[index], size) or not is_behind_others(value, index):
            raise BadTold(index)


def check_wanted(value, size):
    if not isinstance(value, tuple):
        raise BadWanted(None)
    for index in range(len(value)):
        if not is_wanted_pair(value[index], size) or not is_behind_others(value, index):
            raise BadWanted(index)


def check_count(value, least, most):
    if not is_integer_from(value, least, most):
        raise BadCount(f"the number is an integer from {least} to {most}")


def check_weights(value, size):
    if not are_integers_from(value, size, 1, MOST_WEIGHT):
        raise BadWeights("weights are a tuple of integers from 1 to 60, one for each person")


def check_weights_alone(value):
    """Weights without deputies, which would tell of how many people they are."""
    if not isinstance(value, tuple) or not 1 <= len(value) <= MOST_PEOPLE:
        raise BadWeights("weights are a tuple of 1 to 6 integers")
    check_weights(value, len(value))


def check_costs(value, size):
    if not are_integers_from(value, size, 0, MOST_COST):
        raise BadCosts("costs are a tuple of integers from 0 to 1000, one for each person")


def check_dates(value, size):
    if not are_integers_from(value, size, 0, MOST_DATE):
        raise BadDates("dates are a tuple of integers from 0 to 1000, one for each person")


def check_dates_alone(value):
    """Dates without deputies, which would tell of how many people they are."""
    if not isinstance(value, tuple) or not 1 <= len(value) <= MOST_PEOPLE:
        raise BadDates("dates are a tuple of 1 to 6 integers")
    check_dates(value, len(value))


def check_sizes(value, size):
    if not are_integers_from(value, size, 0, MOST_SIZE):
        raise BadSizes("sizes are a tuple of integers from 0 to 1000, one for each duty")


def check_limits(value, size):
    if not are_integers_from(value, size, 0, MOST_LIMIT):
        raise BadLimits("limits are a tuple of integers from 0 to 6000, one for each person")


def check_table(value, size):
    if not are_rows_of_worths(value, size):
        raise BadTable("a table has for each duty a tuple of integers from -100 to 100, the office's last")


def check_wishes(value, size):
    if not are_rows_of_worths(value, size):
        raise BadWishes("wishes have for each person a tuple of integers from -100 to 100, that for nobody last")


def check_places(value, length):
    # Places in an order of so many are what a lot of so many people is.
    if not is_lot(value, length):
        raise BadPlaces("places are an ascending tuple of unlike integers from 0 to less than the length")


def check_lots(value, size):
    if not isinstance(value, tuple) or len(value) > MOST_LOTS:
        raise BadLots(None)
    for index in range(len(value)):
        if not is_lot(value[index], size):
            raise BadLots(index)


def check_text(value):
    if not isinstance(value, str):
        raise NotText("a text is a string")


def check_size(value):
    if not is_integer_from(value, 1, MOST_PEOPLE):
        raise BadSize("a size is an integer from 1 to 6")


def check_at_most(size, most):
    """To be asked when all arguments are known to be allowed: this error comes after all others."""
    if size > most:
        raise TooMany(most)


def check_each_sight(value, size, many, least, most):
    if not isinstance(value, tuple) or not 1 <= len(value) <= MOST_SIGHTS:
        raise BadSights(None)
    for index in range(len(value)):
        if not is_lot_and_integers(value[index], size, many, least, most):
            raise BadSights(index)


def check_sights(value, size):
    check_each_sight(value, size, size, OFFICE, size - 1)


def check_load_sights(value, size):
    check_each_sight(value, size, size + 1, 0, size)
