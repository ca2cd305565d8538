"""The error classes, and which error comes for which wrong argument (points 1 to 10)."""

import unittest

from firstthere import errors
from firstthere.chances import ever_chance, handing_chances, hold_chance, mean_handings, mean_loads, together_chance
from firstthere.costs import cheap_keepers, keeper_paper, shows_cheap_keepers, shows_keeper_paper
from firstthere.deputies import chain, held_by, holder, holders, loads
from firstthere.keeping import apart_chains, keeper_count, keepers, safe_count, shows_apart_chains, shows_keepers
from firstthere.leaving import handing_count, handings, in_time, leaving
from firstthere.needed import (
    fewest_load, greatest_load, least_gone, load_lots, shows_fewest_load, shows_greatest_load)
from firstthere.orders import handing_orders, number_in, order_at, orders_with
from firstthere.rings import behind, chain_lengths, rounds, steps_to_end, to_office
from firstthere.sights import first_against, fits, fitting, fitting_loads, next_seen, sure_deputies
from firstthere.weights import (
    ahead_chance, ever_chance_by, hold_chances_by, last_chances, lot_chance, mean_handings_by, order_chance)
from tests.support import Case
from tests.wrong import (
    HELD, LOADS, NO_COSTS, NO_COUNTS_TO_3, NO_COUNTS_TO_6, NO_DEPUTIES, NO_HOLDERS, NO_LOAD_SIGHTS, NO_LOTS, NO_ORDERS,
    NO_PEOPLE, NO_SIGHTS, NO_SIZES, NO_TOLD, NO_WEIGHTS, NO_WEIGHTS_ALONE, NO_WHOLE_ORDERS, ODD_VALUES)

PLAIN = (
    "BadDeputies", "BadLot", "BadPerson", "BadOrder", "NotThere", "BadNumber", "BadCount", "BadWeights", "BadCosts",
    "BadSize", "BadTable", "BadPlaces", "IsOut", "BadWishes", "NotText", "NothingToUndo", "BadDates", "BadSizes",
    "BadLimits",
)
FIELDS = {
    "BadTold": "index", "BadSights": "index", "BadLots": "index", "BadWanted": "index", "InvalidText": "place",
    "TooMany": "most",
}

# A kind of argument: an allowed value, the error, and wrong values, each with the fields that its error has.
DEPUTIES = ((1, -1, 0), errors.BadDeputies, [(value, {}) for value in NO_DEPUTIES])
PERSON = (2, errors.BadPerson, [(value, {}) for value in NO_PEOPLE])
HOLDER = (-1, errors.BadPerson, [(value, {}) for value in NO_HOLDERS])
LOT = ((0, 1), errors.BadLot, [(value, {}) for value in NO_LOTS])
ORDER = ((1, 0), errors.BadOrder, [(value, {}) for value in NO_ORDERS])
WHOLE_ORDER = ((1, 0, 2), errors.BadOrder, [(value, {}) for value in NO_WHOLE_ORDERS])
TOLD = ((), errors.BadTold, [(value, {"index": index}) for value, index in NO_TOLD])
NUMBER = (5, errors.BadNumber, [(value, {}) for value in ODD_VALUES + (-1, 6, 7, 1000, (0,), ())])
COUNT_TO_3 = (3, errors.BadCount, [(value, {}) for value in NO_COUNTS_TO_3])
COUNT_TO_6 = (6, errors.BadCount, [(value, {}) for value in NO_COUNTS_TO_6])
WEIGHTS = ((1, 60, 7), errors.BadWeights, [(value, {}) for value in NO_WEIGHTS])
WEIGHTS_ALONE = ((1, 60, 7), errors.BadWeights, [(value, {}) for value in NO_WEIGHTS_ALONE])
COSTS = ((0, 1000, 7), errors.BadCosts, [(value, {}) for value in NO_COSTS])
SIZE = (3, errors.BadSize, [(value, {}) for value in NO_SIZES])
SIGHTS = ((((0,), HELD),), errors.BadSights, [(value, {"index": index}) for value, index in NO_SIGHTS])
LOAD_SIGHTS = ((((0,), LOADS),), errors.BadSights, [(value, {"index": index}) for value, index in NO_LOAD_SIGHTS])
# The last argument of a `shows` function: no value of it is wrong.
ANY = (None, None, [(value, {}) for value in ODD_VALUES])

FUNCTIONS = (
    (chain, DEPUTIES, PERSON),
    (holder, DEPUTIES, LOT, PERSON),
    (holders, DEPUTIES, LOT),
    (held_by, DEPUTIES, LOT, HOLDER),
    (loads, DEPUTIES, LOT),
    (rounds, DEPUTIES),
    (to_office, DEPUTIES),
    (chain_lengths, DEPUTIES),
    (steps_to_end, DEPUTIES),
    (behind, DEPUTIES, PERSON),
    (in_time, DEPUTIES, ORDER),
    (handings, DEPUTIES, ORDER, PERSON),
    (handing_count, DEPUTIES, ORDER),
    (leaving, DEPUTIES, LOT, PERSON),
    (orders_with, DEPUTIES, TOLD),
    (order_at, DEPUTIES, TOLD, NUMBER),
    (number_in, DEPUTIES, TOLD, WHOLE_ORDER),
    (handing_orders, DEPUTIES),
    (ever_chance, DEPUTIES, PERSON, HOLDER),
    (handing_chances, DEPUTIES, PERSON),
    (mean_handings, DEPUTIES),
    (hold_chance, DEPUTIES, COUNT_TO_3, PERSON, HOLDER),
    (mean_loads, DEPUTIES, COUNT_TO_3),
    (together_chance, DEPUTIES, COUNT_TO_3, PERSON, PERSON),
    (order_chance, WEIGHTS_ALONE, ORDER),
    (ahead_chance, WEIGHTS_ALONE, LOT, PERSON),
    (last_chances, WEIGHTS_ALONE),
    (lot_chance, WEIGHTS_ALONE, LOT),
    (ever_chance_by, DEPUTIES, WEIGHTS, PERSON, HOLDER),
    (hold_chances_by, DEPUTIES, WEIGHTS, COUNT_TO_3, PERSON),
    (mean_handings_by, DEPUTIES, WEIGHTS),
    (least_gone, DEPUTIES, PERSON, HOLDER),
    (fewest_load, DEPUTIES, PERSON, COUNT_TO_6),
    (shows_fewest_load, DEPUTIES, PERSON, COUNT_TO_6, ANY),
    (load_lots, DEPUTIES, PERSON, COUNT_TO_6),
    (greatest_load, DEPUTIES, COUNT_TO_6),
    (shows_greatest_load, DEPUTIES, COUNT_TO_6, ANY),
    (keepers, DEPUTIES),
    (shows_keepers, DEPUTIES, ANY),
    (keeper_count, DEPUTIES),
    (apart_chains, DEPUTIES),
    (shows_apart_chains, DEPUTIES, ANY),
    (safe_count, DEPUTIES),
    (cheap_keepers, DEPUTIES, COSTS),
    (shows_cheap_keepers, DEPUTIES, COSTS, ANY),
    (keeper_paper, DEPUTIES, COSTS),
    (shows_keeper_paper, DEPUTIES, COSTS, ANY),
    (fitting, SIZE, SIGHTS),
    (fits, DEPUTIES, SIGHTS),
    (sure_deputies, SIZE, SIGHTS),
    (next_seen, SIZE, SIGHTS, LOT),
    (first_against, SIZE, SIGHTS),
    (fitting_loads, SIZE, LOAD_SIGHTS),
)

# These take a size of at most 4.
FOR_FEW = (fitting, sure_deputies, next_seen, first_against, fitting_loads)


class ErrorClasses(unittest.TestCase):
    def test_base(self):
        self.assertEqual(errors.DutyError.__bases__, (ValueError,))

    def test_classes(self):
        for name in (*PLAIN, *FIELDS):
            with self.subTest(name=name):
                self.assertEqual(getattr(errors, name).__bases__, (errors.DutyError,))
                self.assertEqual(getattr(errors, name).__module__, "firstthere.errors")

    def test_no_other_classes(self):
        listed = {each.__name__ for each in errors.DutyError.__subclasses__()}
        self.assertEqual(listed, {*PLAIN, *FIELDS})

    def test_plain_ones_have_no_fields(self):
        for name in PLAIN:
            with self.subTest(name=name):
                self.assertEqual(vars(getattr(errors, name)("why")), {})

    def test_fields(self):
        for name, field in FIELDS.items():
            for value in (0, 4, None):
                with self.subTest(name=name, value=value):
                    self.assertEqual(vars(getattr(errors, name)(value)), {field: value})


def wrong_ones(kinds):
    """The place, the error and the wrong values of each argument that can be wrong."""
    return [(at, error, wrong) for at, (_, error, wrong) in enumerate(kinds) if error is not None]


class WrongArguments(Case):
    def test_allowed_values_are_allowed(self):
        for call, *kinds in FUNCTIONS:
            with self.subTest(call=call.__name__):
                values = [kind[0] for kind in kinds]
                self.same(call(*values), call(*values))

    def test_one_wrong_argument(self):
        for call, *kinds in FUNCTIONS:
            for at, error, wrong in wrong_ones(kinds):
                values = [kind[0] for kind in kinds]
                for value, fields in wrong:
                    values[at] = value
                    self.fails(error, call, *values, **fields)

    def test_leftmost_of_several(self):
        for call, *kinds in FUNCTIONS:
            for at, error, wrong in wrong_ones(kinds):
                before = [kind[0] for kind in kinds[:at]]
                for value, fields in wrong:
                    for later in range(4):
                        behind_it = [kind[2][later * 5][0] for kind in kinds[at + 1:]]
                        self.fails(error, call, *before, value, *behind_it, **fields)

    def test_only_a_later_one_besides(self):
        for call, *kinds in FUNCTIONS:
            for at, error, wrong in wrong_ones(kinds):
                for later in range(at + 1, len(kinds)):
                    values = [kind[0] for kind in kinds]
                    values[at], values[later] = wrong[3][0], kinds[later][2][3][0]
                    self.fails(error, call, *values, **wrong[3][1])

    def test_shows_returns_true_or_false_for_any_value(self):
        for call, *kinds in FUNCTIONS:
            self.assertEqual(call.__name__.startswith("shows"), kinds[-1] is ANY)
            if kinds[-1] is ANY:
                values = [kind[0] for kind in kinds[:-1]]
                for value in (*ODD_VALUES, *NO_DEPUTIES, *NO_LOTS, *NO_COSTS, 0, (), ((1, 0),), 2 ** 900):
                    with self.subTest(call=call.__name__, value=value):
                        self.assertIn(repr(call(*values, value)), ("True", "False"))

    def test_the_size_is_that_of_the_deputies(self):
        self.fails(errors.BadPerson, chain, (-1,), 1)
        self.fails(errors.BadPerson, behind, (1, 0), 2)
        self.fails(errors.BadLot, holders, (1, 0), (2,))
        self.fails(errors.BadLot, loads, (-1,), (0, 1))
        self.fails(errors.BadOrder, in_time, (1, 0), (1, 2))
        self.fails(errors.BadPerson, held_by, (1, 0), (), 2)
        self.fails(errors.BadTold, orders_with, (1, 0), ((0, (0, 2)),), index=0)
        self.fails(errors.BadTold, orders_with, (1, 0), ((0, (0,)), (2, (0,))), index=1)
        self.fails(errors.BadOrder, number_in, (1, 0), (), (0, 1, 2))
        self.fails(errors.BadPerson, ever_chance, (1, 0), 0, 2)
        self.fails(errors.BadCount, hold_chance, (1, 0), 3, 0, 0)
        self.fails(errors.BadCount, mean_loads, (-1,), 2)
        self.fails(errors.BadOrder, order_chance, (1, 1), (2,))
        self.fails(errors.BadPerson, ahead_chance, (1, 1), (0,), 2)
        self.fails(errors.BadLot, lot_chance, (1,), (0, 1))
        self.fails(errors.BadWeights, mean_handings_by, (1, 0), (1, 1, 1))
        self.fails(errors.BadWeights, ever_chance_by, (1, 0), (1,), 0, 0)
        self.fails(errors.BadCount, hold_chances_by, (1, 0), (1, 1), 3, 0)
        self.fails(errors.BadCosts, cheap_keepers, (1, 0), (1, 1, 1))
        self.fails(errors.BadCosts, keeper_paper, (1, 0), (1,))
        self.fails(errors.BadSights, fits, (1, 0), (((), (0, 1)), ((2,), (0, 1))), index=1)
        self.fails(errors.BadSights, fits, (1, 0), (((), (0, 2)),), index=0)
        self.fails(errors.BadSights, fitting, 2, (((), (0, 1, 2)),), index=0)
        self.fails(errors.BadSights, fitting_loads, 2, (((), (1, 1, 0)), ((), (1, 1, 3))), index=1)
        self.fails(errors.BadLot, next_seen, 2, (((), (0, 1)),), (2,))

    def test_counts_up_to_6_are_so_for_few_people_too(self):
        for many in range(7):
            self.same(load_lots((-1,), 0, many), 1 if many < 2 else 0)
            self.same(greatest_load((-1,), many), (1, ()))
        self.fails(errors.BadCount, load_lots, (-1,), 0, 7)
        self.fails(errors.BadCount, greatest_load, (-1,), -1)

    def test_sizes_from_1_to_6(self):
        for size in range(1, 7):
            self.same(rounds((-1,) * size), ())
            self.same(order_chance((60,) * size, ()), (1, 1))
        for size in (0, 7, 8, 60):
            self.fails(errors.BadDeputies, rounds, (-1,) * size)
            self.fails(errors.BadWeights, order_chance, (60,) * size, ())
            self.fails(errors.BadSize, fitting, size, (((), ()),))


class TooManyPeople(Case):
    def test_sizes_of_5_and_6(self):
        for size in (5, 6):
            people = tuple(range(size))
            held = ((people[1:], (0,) * size),)
            self.same(fits((-1,) * size, held), False)
            for call in (fitting, sure_deputies, first_against):
                self.fails(errors.TooMany, call, size, held, most=4)
            self.fails(errors.TooMany, next_seen, size, held, people, most=4)
            self.fails(errors.TooMany, fitting_loads, size, ((people, (0,) * size + (size,)),), most=4)

    def test_sizes_up_to_4_are_not_too_many(self):
        for size in range(1, 5):
            held = (((), tuple(range(size))),)
            self.same(len(fitting(size, held)), size ** size)
            self.same(len(fitting_loads(size, (((), (1,) * size + (0,)),))), size ** size)
            self.same(sure_deputies(size, held), (-1,) if size == 1 else (None,) * size)
            self.same(next_seen(size, held, ()), (tuple(range(size)),))
            self.same(first_against(size, held), None)

    def test_all_other_errors_come_first(self):
        for size in (5, 6):
            people = tuple(range(size))
            good = ((people, (-1,) * size),)
            for sights, index in ((None, None), ((), None), (good * 9, None), ((0,), 0), (good + (good,), 1)):
                for call in FOR_FEW:
                    values = (people,) if call is next_seen else ()
                    if call is not fitting_loads:
                        self.fails(errors.BadSights, call, size, sights, *values, index=index)
            for sights, index in ((None, None), ((), None), (good, 0), (((people, (0,) * size),), 0)):
                self.fails(errors.BadSights, fitting_loads, size, sights, index=index)
            for lot in NO_LOTS[:25] + ((size,), people[::-1], (0, 0)):
                self.fails(errors.BadLot, next_seen, size, good, lot)
            self.fails(errors.BadSights, next_seen, size, (None,), None, index=0)
        for call in FOR_FEW:
            values = (None,) if call is next_seen else ()
            for size in (7, 0, True, None, "5", (5,), [5]):
                self.fails(errors.BadSize, call, size, None, *values)


if __name__ == "__main__":
    unittest.main()
