"""What values are allowed: an `is_` or `are_` function asks, a `check_` function raises the error."""

from firstthere.errors import BadDeputies, BadLot, BadOrder, BadPerson, BadTold

OFFICE = -1
MOST_PEOPLE = 6


def is_plain_integer(value):
    # To Python a boolean is an integer, too; the document says that it is none.
    return isinstance(value, int) and not isinstance(value, bool)


def is_person(value, size):
    return is_plain_integer(value) and 0 <= value < size


def is_holder(value, size):
    return is_plain_integer(value) and OFFICE <= value < size


def is_deputies(value):
    if not isinstance(value, tuple) or not 1 <= len(value) <= MOST_PEOPLE:
        return False
    return all(is_holder(value[person], len(value)) and value[person] != person for person in range(len(value)))


def are_unlike_holders(value, size):
    # The kinds come first: only integers are sure to be taken by a set.
    if not isinstance(value, tuple) or not all(is_holder(each, size) for each in value):
        return False
    return len(set(value)) == len(value)


def is_order(value, size):
    return are_unlike_holders(value, size) and OFFICE not in value


def is_lot(value, size):
    return is_order(value, size) and list(value) == sorted(value)


def are_holders_in_time(value, size):
    return are_unlike_holders(value, size) and len(value) > 0 and OFFICE not in value[:-1]


def is_told_pair(value, size):
    if not isinstance(value, tuple) or len(value) != 2:
        return False
    return is_person(value[0], size) and are_holders_in_time(value[1], size)


def check_deputies(value):
    if not is_deputies(value):
        raise BadDeputies("deputies are 1 to 6 integers in a tuple, each another person or -1")


def check_lot(value, size):
    if not is_lot(value, size):
        raise BadLot("a lot is an ascending tuple of unlike people")


def check_person(value, size):
    if not is_person(value, size):
        raise BadPerson("a person is an integer from 0 to less than the number of people")


def check_holder(value, size):
    if not is_holder(value, size):
        raise BadPerson("a holder is a person, or -1 for the office")


def check_order(value, size):
    if not is_order(value, size):
        raise BadOrder("an order is a tuple of unlike people")


def check_told(value, size):
    if not isinstance(value, tuple):
        raise BadTold(None)
    before = -1
    for index in range(len(value)):
        if not is_told_pair(value[index], size) or value[index][0] <= before:
            raise BadTold(index)
        before = value[index][0]
