"""The errors of the package: one class for each kind of value that is not allowed."""


class DutyError(ValueError):
    """What all errors of the package are."""


class BadDeputies(DutyError):
    """Not a tuple of 1 to 6 deputies."""


class BadLot(DutyError):
    """Not an ascending tuple of unlike people."""


class BadPerson(DutyError):
    """Not a person, nor -1 where that is allowed."""


class BadOrder(DutyError):
    """Not an order of leaving that is allowed here."""


class NotThere(DutyError):
    """A person who has left already."""


class BadTold(DutyError):
    """Not told holders: the index of the first bad one, None if there is no tuple."""

    def __init__(self, index):
        self.index = index


class BadNumber(DutyError):
    """Not the number of an order."""


class BadCount(DutyError):
    """Not a number of the range that is allowed here."""


class BadWeights(DutyError):
    """Not a tuple of weights."""


class BadCosts(DutyError):
    """Not a tuple of costs."""


class BadSize(DutyError):
    """Not an integer from 1 to 6."""


class BadSights(DutyError):
    """Not sights: the index of the first bad one, None if there is no such tuple."""

    def __init__(self, index):
        self.index = index


class BadLots(DutyError):
    """Not lots: the index of the first bad one, None if there is no such tuple."""

    def __init__(self, index):
        self.index = index


class BadTable(DutyError):
    """Not a table of what each holding is worth."""


class BadWanted(DutyError):
    """Not wanted holders: the index of the first bad one, None if there is no tuple."""

    def __init__(self, index):
        self.index = index


class BadPlaces(DutyError):
    """Not an ascending tuple of unlike places."""


class IsOut(DutyError):
    """The office holds the duty already."""


class BadWishes(DutyError):
    """Not a tuple of wishes."""


class NotText(DutyError):
    """Not a string."""


class InvalidText(DutyError):
    """A text that cannot be read: the place of the first character that is not allowed."""

    def __init__(self, place):
        self.place = place


class NothingToUndo(DutyError):
    """No leaving is left to take back."""


class BadDates(DutyError):
    """Not a tuple of dates."""


class BadSizes(DutyError):
    """Not a tuple of sizes of duties."""


class BadLimits(DutyError):
    """Not a tuple of limits."""


class TooMany(DutyError):
    """More people than an answer is given for: the most that there may be."""

    def __init__(self, most):
        self.most = most
