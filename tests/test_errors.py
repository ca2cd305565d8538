"""The error classes, and which error comes for which wrong argument (points 1 to 5)."""

import unittest

from firstthere import errors
from firstthere.deputies import chain, held_by, holder, holders, loads
from firstthere.leaving import handing_count, handings, in_time, leaving
from firstthere.orders import handing_orders, number_in, order_at, orders_with
from firstthere.rings import behind, chain_lengths, rounds, steps_to_end, to_office
from tests.support import (
    NO_DEPUTIES, NO_HOLDERS, NO_LOTS, NO_ORDERS, NO_PEOPLE, NO_TOLD, NO_WHOLE_ORDERS, ODD_VALUES, Case)

PLAIN = (
    "BadDeputies", "BadLot", "BadPerson", "BadOrder", "NotThere", "BadNumber", "BadCount", "BadWeights", "BadCosts",
    "BadSize", "BadTable", "BadPlaces", "IsOut", "BadWishes", "NotText", "NothingToUndo", "BadDates", "BadSizes",
    "BadLimits",
)
FIELDS = {
    "BadTold": "index", "BadSights": "index", "BadLots": "index", "BadWanted": "index", "InvalidText": "place",
    "TooMany": "most",
}

# A kind of argument: an allowed value, the error, and wrong values, each with the fields that its error has.
DEPUTIES = ((1, -1, 0), errors.BadDeputies, [(value, {}) for value in NO_DEPUTIES])
PERSON = (2, errors.BadPerson, [(value, {}) for value in NO_PEOPLE])
HOLDER = (-1, errors.BadPerson, [(value, {}) for value in NO_HOLDERS])
LOT = ((0, 1), errors.BadLot, [(value, {}) for value in NO_LOTS])
ORDER = ((1, 0), errors.BadOrder, [(value, {}) for value in NO_ORDERS])
WHOLE_ORDER = ((1, 0, 2), errors.BadOrder, [(value, {}) for value in NO_WHOLE_ORDERS])
TOLD = ((), errors.BadTold, [(value, {"index": index}) for value, index in NO_TOLD])
NUMBER = (5, errors.BadNumber, [(value, {}) for value in ODD_VALUES + (-1, 6, 7, 1000, (0,), ())])

FUNCTIONS = (
    (chain, DEPUTIES, PERSON),
    (holder, DEPUTIES, LOT, PERSON),
    (holders, DEPUTIES, LOT),
    (held_by, DEPUTIES, LOT, HOLDER),
    (loads, DEPUTIES, LOT),
    (rounds, DEPUTIES),
    (to_office, DEPUTIES),
    (chain_lengths, DEPUTIES),
    (steps_to_end, DEPUTIES),
    (behind, DEPUTIES, PERSON),
    (in_time, DEPUTIES, ORDER),
    (handings, DEPUTIES, ORDER, PERSON),
    (handing_count, DEPUTIES, ORDER),
    (leaving, DEPUTIES, LOT, PERSON),
    (orders_with, DEPUTIES, TOLD),
    (order_at, DEPUTIES, TOLD, NUMBER),
    (number_in, DEPUTIES, TOLD, WHOLE_ORDER),
    (handing_orders, DEPUTIES),
)


class ErrorClasses(unittest.TestCase):
    def test_base(self):
        self.assertEqual(errors.DutyError.__bases__, (ValueError,))

    def test_classes(self):
        for name in (*PLAIN, *FIELDS):
            with self.subTest(name=name):
                self.assertEqual(getattr(errors, name).__bases__, (errors.DutyError,))
                self.assertEqual(getattr(errors, name).__module__, "firstthere.errors")

    def test_no_other_classes(self):
        listed = {each.__name__ for each in errors.DutyError.__subclasses__()}
        self.assertEqual(listed, {*PLAIN, *FIELDS})

    def test_plain_ones_have_no_fields(self):
        for name in PLAIN:
            with self.subTest(name=name):
                self.assertEqual(vars(getattr(errors, name)("why")), {})

    def test_fields(self):
        for name, field in FIELDS.items():
            for value in (0, 4, None):
                with self.subTest(name=name, value=value):
                    self.assertEqual(vars(getattr(errors, name)(value)), {field: value})


class WrongArguments(Case):
    def test_allowed_values_are_allowed(self):
        for call, *kinds in FUNCTIONS:
            with self.subTest(call=call.__name__):
                values = [kind[0] for kind in kinds]
                self.same(call(*values), call(*values))

    def test_one_wrong_argument(self):
        for call, *kinds in FUNCTIONS:
            for at, (_, error, wrong) in enumerate(kinds):
                values = [kind[0] for kind in kinds]
                for value, fields in wrong:
                    values[at] = value
                    self.fails(error, call, *values, **fields)

    def test_leftmost_of_several(self):
        for call, *kinds in FUNCTIONS:
            for at, (_, error, wrong) in enumerate(kinds):
                before = [kind[0] for kind in kinds[:at]]
                for value, fields in wrong:
                    for later in range(4):
                        behind_it = [kind[2][later * 5][0] for kind in kinds[at + 1:]]
                        self.fails(error, call, *before, value, *behind_it, **fields)

    def test_only_a_later_one_besides(self):
        for call, *kinds in FUNCTIONS:
            for at in range(len(kinds)):
                for later in range(at + 1, len(kinds)):
                    values = [kind[0] for kind in kinds]
                    value, fields = kinds[at][2][3]
                    values[at], values[later] = value, kinds[later][2][3][0]
                    self.fails(kinds[at][1], call, *values, **fields)

    def test_the_size_is_that_of_the_deputies(self):
        self.fails(errors.BadPerson, chain, (-1,), 1)
        self.fails(errors.BadPerson, behind, (1, 0), 2)
        self.fails(errors.BadLot, holders, (1, 0), (2,))
        self.fails(errors.BadLot, loads, (-1,), (0, 1))
        self.fails(errors.BadOrder, in_time, (1, 0), (1, 2))
        self.fails(errors.BadPerson, held_by, (1, 0), (), 2)
        self.fails(errors.BadTold, orders_with, (1, 0), ((0, (0, 2)),), index=0)
        self.fails(errors.BadTold, orders_with, (1, 0), ((0, (0,)), (2, (0,))), index=1)
        self.fails(errors.BadOrder, number_in, (1, 0), (), (0, 1, 2))

    def test_sizes_from_1_to_6(self):
        for size in range(1, 7):
            self.same(rounds((-1,) * size), ())
        for size in (0, 7, 8, 60):
            self.fails(errors.BadDeputies, rounds, (-1,) * size)


if __name__ == "__main__":
    unittest.main()
