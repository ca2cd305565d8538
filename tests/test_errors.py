"""The error classes, and which error comes for which wrong argument (points 1 to 32)."""

import importlib
import inspect
import unittest

from firstthere import errors
from firstthere.chances import ever_chance, hold_chance, mean_loads
from firstthere.changing import fewest_changes, shows_fewest_changes
from firstthere.closed import beside, closure, unlike_lots
from firstthere.costs import cheap_keepers, keeper_paper
from firstthere.counts import chain_total, mean_chain, naming_count, office_count, ring_count
from firstthere.dates import busiest_date, duty_days, order_by, out_date, spans
from firstthere.days import day_sums, fair_lot, plan
from firstthere.deputies import chain, held_by, holders, loads
from firstthere.doubts import deputy_chances, holder_chances
from firstthere.hands import late_end, late_moves, wins_duty
from firstthere.leaving import in_time
from firstthere.limits import best_change, best_naming, is_settled, naming_paper
from firstthere.meeting import ever_orders, last_orders, meeting_orders, office_chances, place_chances
from firstthere.moments import holding_time, moment, out_chances, record_orders
from firstthere.naming import first_common, join_lot, reduced, renamed
from firstthere.needed import greatest_load, load_lots
from firstthere.nets import best_lot, cheap_order, order_cost
from firstthere.offices import Office
from firstthere.orders import number_in, orders_with
from firstthere.randoms import random_hold, random_out
from firstthere.rates import load_times, mean_hold_by, mean_out_by, mean_stay
from firstthere.rings import behind, rounds
from firstthere.shapes import alike, handing_chances_by, told_chance
from firstthere.sights import first_against, fits, fitting, fitting_loads, next_seen, sure_deputies
from firstthere.sized import can_leave, largest_leave, leave_count, sized_loads
from firstthere.sure import both_out, fewest_sure, spread, sure_count
from firstthere.telling import least_tellers, shows_unlike_ones, tells_all, told_by, unlike_ones
from firstthere.weights import (
    ahead_chance, ever_chance_by, hold_chances_by, lot_chance, mean_handings_by, order_chance)
from firstthere.worths import best_deputies, best_order, mean_worth, order_total, shows_best_deputies, worth
from tests.kinds import ANY, ARGUMENTS, too_many
from tests.support import Case
from tests.test_package import INTERFACE
from tests.wrong import NO_COSTS, NO_DEPUTIES, NO_LOTS, ODD_VALUES

PLAIN = (
    "BadDeputies", "BadLot", "BadPerson", "BadOrder", "NotThere", "BadNumber", "BadCount", "BadWeights", "BadCosts",
    "BadSize", "BadTable", "BadPlaces", "IsOut", "BadWishes", "NotText", "NothingToUndo", "BadDates", "BadSizes",
    "BadLimits",
)
FIELDS = {
    "BadTold": "index", "BadSights": "index", "BadLots": "index", "BadWanted": "index", "InvalidText": "place",
    "TooMany": "most",
}

# Values nearly of the kinds that a `shows` function takes, and deeper ones.
LARGER = (
    ((1, 2), (1, -1, 0)), ((1, 2), (1, -1)), ((0, 0), (1, -1, 0)), (1, (2, 1, 0)), ((1, -1, 0), (1, -1, 1)),
    ((1, -1, 0), (1, -1)), (((1, 1),) * 3, ((0, 1),) * 3), (((1, 1),) * 3, ((0, 0),) * 3), ((0,), (1,), (2,)),
    ((0, [1]), (2,)), (((0,),),), ((((),),),), [((0,), (1, 2))], {"0": ((0,),)}, (1, (0, 1)), ("1", (0, 1)),
)

# Each function with the kinds of its arguments.
FUNCTIONS = [
    (getattr(importlib.import_module("firstthere." + name), function), *kinds)
    for name, functions in ARGUMENTS.items() for function, kinds in functions.items()]

# These take sights and a size of at most 4.
FOR_FEW = (fitting, sure_deputies, next_seen, first_against, fitting_loads)


class ErrorClasses(unittest.TestCase):
    def test_base(self):
        self.assertEqual(errors.DutyError.__bases__, (ValueError,))

    def test_classes(self):
        for name in (*PLAIN, *FIELDS):
            with self.subTest(name=name):
                self.assertEqual(getattr(errors, name).__bases__, (errors.DutyError,))
                self.assertEqual(getattr(errors, name).__module__, "firstthere.errors")

    def test_no_other_classes(self):
        listed = {each.__name__ for each in errors.DutyError.__subclasses__()}
        self.assertEqual(listed, {*PLAIN, *FIELDS})

    def test_plain_ones_have_no_fields(self):
        for name in PLAIN:
            with self.subTest(name=name):
                self.assertEqual(vars(getattr(errors, name)("why")), {})

    def test_fields(self):
        for name, field in FIELDS.items():
            for value in (0, 4, None):
                with self.subTest(name=name, value=value):
                    self.assertEqual(vars(getattr(errors, name)(value)), {field: value})


def wrong_ones(kinds):
    """The place, the error and the wrong values of each argument that can be wrong."""
    return [(at, error, wrong) for at, (_, error, wrong) in enumerate(kinds) if error is not None]


def as_told(answer):
    """An office as what it tells; any other answer as it is."""
    if isinstance(answer, Office):
        return (answer.holders(), answer.gone(), answer.order())
    return answer


class WrongArguments(Case):
    def test_all_functions_are_asked(self):
        self.assertEqual(list(ARGUMENTS), list(INTERFACE))
        for name, functions in ARGUMENTS.items():
            with self.subTest(file=name):
                parameters = {function: len(asked.split()) for function, asked in INTERFACE[name].items()}
                self.assertEqual({function: len(kinds) for function, kinds in functions.items()}, parameters)

    def test_allowed_values_are_allowed(self):
        for call, *kinds in FUNCTIONS:
            with self.subTest(call=call.__name__):
                values = [kind[0] for kind in kinds]
                self.same(as_told(call(*values)), as_told(call(*values)))

    def test_one_wrong_argument(self):
        for call, *kinds in FUNCTIONS:
            for at, error, wrong in wrong_ones(kinds):
                values = [kind[0] for kind in kinds]
                for value, fields in wrong:
                    values[at] = value
                    self.fails(error, call, *values, **fields)

    def test_leftmost_of_several(self):
        for call, *kinds in FUNCTIONS:
            for at, error, wrong in wrong_ones(kinds):
                before = [kind[0] for kind in kinds[:at]]
                for value, fields in wrong:
                    for later in range(4):
                        behind_it = [kind[2][later * 5][0] for kind in kinds[at + 1:]]
                        self.fails(error, call, *before, value, *behind_it, **fields)

    def test_two_at_once(self):
        for call, *kinds in FUNCTIONS:
            for at, error, wrong in wrong_ones(kinds):
                for later in range(at + 1, len(kinds)):
                    for value, fields in wrong[::6]:
                        for other, _ in kinds[later][2][2:12:3]:
                            values = [kind[0] for kind in kinds]
                            values[at], values[later] = value, other
                            self.fails(error, call, *values, **fields)

    def test_shows_returns_true_or_false_for_any_value(self):
        for call, *kinds in FUNCTIONS:
            self.assertEqual(call.__name__.startswith("shows"), kinds[-1] is ANY)
            if kinds[-1] is ANY:
                values = [kind[0] for kind in kinds[:-1]]
                for value in (*ODD_VALUES, *NO_DEPUTIES, *NO_LOTS, *NO_COSTS, 0, (), ((1, 0),), 2 ** 900, *LARGER):
                    with self.subTest(call=call.__name__, value=value):
                        self.assertIn(repr(call(*values, value)), ("True", "False"))

    def test_the_size_is_that_of_the_deputies(self):
        self.fails(errors.BadPerson, chain, (-1,), 1)
        self.fails(errors.BadPerson, behind, (1, 0), 2)
        self.fails(errors.BadLot, holders, (1, 0), (2,))
        self.fails(errors.BadLot, loads, (-1,), (0, 1))
        self.fails(errors.BadOrder, in_time, (1, 0), (1, 2))
        self.fails(errors.BadPerson, held_by, (1, 0), (), 2)
        self.fails(errors.BadTold, orders_with, (1, 0), ((0, (0, 2)),), index=0)
        self.fails(errors.BadTold, orders_with, (1, 0), ((0, (0,)), (2, (0,))), index=1)
        self.fails(errors.BadOrder, number_in, (1, 0), (), (0, 1, 2))
        self.fails(errors.BadPerson, ever_chance, (1, 0), 0, 2)
        self.fails(errors.BadCount, hold_chance, (1, 0), 3, 0, 0)
        self.fails(errors.BadCount, mean_loads, (-1,), 2)
        self.fails(errors.BadOrder, order_chance, (1, 1), (2,))
        self.fails(errors.BadPerson, ahead_chance, (1, 1), (0,), 2)
        self.fails(errors.BadLot, lot_chance, (1,), (0, 1))
        self.fails(errors.BadWeights, mean_handings_by, (1, 0), (1, 1, 1))
        self.fails(errors.BadWeights, ever_chance_by, (1, 0), (1,), 0, 0)
        self.fails(errors.BadCount, hold_chances_by, (1, 0), (1, 1), 3, 0)
        self.fails(errors.BadCosts, cheap_keepers, (1, 0), (1, 1, 1))
        self.fails(errors.BadCosts, keeper_paper, (1, 0), (1,))
        self.fails(errors.BadSights, fits, (1, 0), (((), (0, 1)), ((2,), (0, 1))), index=1)
        self.fails(errors.BadSights, fits, (1, 0), (((), (0, 2)),), index=0)
        self.fails(errors.BadSights, fitting, 2, (((), (0, 1, 2)),), index=0)
        self.fails(errors.BadSights, fitting_loads, 2, (((), (1, 1, 0)), ((), (1, 1, 3))), index=1)
        self.fails(errors.BadLot, next_seen, 2, (((), (0, 1)),), (2,))
        self.fails(errors.BadLots, tells_all, 2, ((0,), (1, 2)), index=1)
        self.fails(errors.BadLots, told_by, (1, 0), ((0,), (1,), (2,)), index=2)
        self.fails(errors.BadTable, worth, (1, 0), ((0, 0, 0, 0),) * 2, ())
        self.fails(errors.BadTable, best_order, (1, 0), ((0, 0, 0),) * 3)
        self.fails(errors.BadCount, mean_worth, (1, 0), ((0, 0, 0),) * 2, 3)
        self.fails(errors.BadOrder, order_total, (1, 0), ((0, 0, 0),) * 2, (2,))
        self.fails(errors.BadWanted, fewest_changes, (1, 0), (), ((0, 0), (1, 2)), index=1)
        self.fails(errors.BadWanted, fewest_changes, (1, 0), (), ((2, 0),), index=0)
        self.fails(errors.BadLot, reduced, (1, 0), (2,))
        self.fails(errors.BadOrder, renamed, (1, 0), (0, 1, 2))
        self.fails(errors.BadOrder, renamed, (1, 0), (0,))
        self.fails(errors.BadPerson, first_common, (1, 0), 0, 2)
        self.fails(errors.BadPerson, join_lot, (1, 0), 2, 0)

    def test_the_size_is_that_of_the_deputies_here_too(self):
        self.fails(errors.BadOrder, moment, (1, 0), (1, 2), 0, 0)
        self.fails(errors.BadPerson, moment, (1, 0), (1, 0), 2, 0)
        self.fails(errors.BadPerson, moment, (1, 0), (1, 0), 0, 2)
        self.fails(errors.BadPerson, out_chances, (1, 0), 2)
        self.fails(errors.BadPerson, holding_time, (1, 0), 0, 2)
        self.fails(errors.BadPlaces, record_orders, 2, (0, 2))
        self.fails(errors.BadPerson, late_end, (-1,), 1)
        self.fails(errors.BadLot, late_moves, (1, 0), (2,), 0)
        self.fails(errors.BadPerson, wins_duty, (1, 0), 0, 2)
        self.fails(errors.BadLots, plan, (1, 0), ((0,), (2,)), index=1)
        self.fails(errors.BadLots, day_sums, (-1,), ((), (0,), (0, 1)), index=2)
        self.fails(errors.BadCount, fair_lot, (1, 0), 3)
        self.fails(errors.BadWishes, best_naming, 2, ((0, 0, 0),) * 3, 1)
        self.fails(errors.BadWishes, naming_paper, 2, ((0, 0, 0, 0),) * 2, 1)
        self.fails(errors.BadTable, best_change, (1, 0), ((0, 0, 0),), 0)
        self.fails(errors.BadCount, is_settled, (1, 0), ((0, 0, 0),) * 2, 3)
        self.fails(errors.BadCount, random_out, 2, 3)
        self.fails(errors.BadCount, random_hold, 2, 2)
        self.fails(errors.BadPerson, ever_orders, (1, 0), 2, 0)
        self.fails(errors.BadPerson, last_orders, (1, 0), 0, 2)
        self.fails(errors.BadPerson, meeting_orders, (1, 0), 0, 2)
        self.fails(errors.BadCount, office_chances, (1, 0), 3)
        self.fails(errors.BadPerson, place_chances, (1, 1, 1), 3)

    def test_the_size_is_that_of_the_first_argument(self):
        self.fails(errors.BadCosts, cheap_order, (1, 0), (1, 1, 1))
        self.fails(errors.BadCosts, order_cost, (1, 0), (1,), ())
        self.fails(errors.BadOrder, order_cost, (1, 0), (1, 1), (2,))
        self.fails(errors.BadTable, best_lot, (1, 0), ((0, 0, 0),) * 3, (1, 1))
        self.fails(errors.BadCosts, best_lot, (1, 0), ((0, 0, 0),) * 2, (1, 1, 1))
        self.fails(errors.BadDeputies, unlike_lots, (1, 0), (1, 2, 0))
        self.fails(errors.BadLot, closure, (1, 0), (2,))
        self.fails(errors.BadPerson, Office((1, 0)).leave, 2)
        self.fails(errors.BadDates, spans, (1, 0), (1, 1, 1), 2)
        self.fails(errors.BadPerson, spans, (1, 0), (1, 1), 2)
        self.fails(errors.BadDates, out_date, (1, 0), (1,), 0)
        self.fails(errors.BadDates, duty_days, (1, 0), (1, 1, 1))
        self.fails(errors.BadDates, busiest_date, (-1,), (1, 1))
        self.fails(errors.BadLot, mean_stay, (1, 1), (2,))
        self.fails(errors.BadWeights, mean_out_by, (1, 0), (1, 1, 1), 2)
        self.fails(errors.BadPerson, mean_out_by, (1, 0), (1, 1), 2)
        self.fails(errors.BadPerson, mean_hold_by, (1, 0), (1, 1), 0, 2)
        self.fails(errors.BadWeights, load_times, (-1,), (1, 1))
        self.fails(errors.BadCount, sure_count, 2, 3)
        self.fails(errors.BadCount, spread, (1, 0), 3)
        self.fails(errors.BadPerson, both_out, (1, 0), 2, 0, 2)
        self.fails(errors.BadSights, deputy_chances, 2, (((), (0, 1, 2)),), 2, index=0)
        self.fails(errors.BadPerson, deputy_chances, 2, (((), (0, 1)),), 2)
        self.fails(errors.BadLot, holder_chances, 2, (((), (0, 1)),), (2,), 2)
        self.fails(errors.BadPerson, holder_chances, 2, (((), (0, 1)),), (1,), 2)
        self.fails(errors.BadSizes, sized_loads, (1, 0), (1, 1, 1), (2,))
        self.fails(errors.BadLot, sized_loads, (1, 0), (1, 1), (2,))
        self.fails(errors.BadLimits, can_leave, (1, 0), (1, 1), (1, 1, 1), (2,))
        self.fails(errors.BadLot, can_leave, (1, 0), (1, 1), (1, 1), (2,))
        self.fails(errors.BadLimits, largest_leave, (1, 0), (1, 1), (1,))
        self.fails(errors.BadLimits, leave_count, (-1,), (1,), (1, 1))
        self.fails(errors.BadDeputies, alike, (1, 0), (1, 2, 0))
        self.fails(errors.BadWeights, told_chance, (1, 0), (1, 1, 1), ())
        self.fails(errors.BadTold, told_chance, (1, 0), (1, 1), ((0, (0, 2)),), index=0)
        self.fails(errors.BadPerson, handing_chances_by, (1, 0), (1, 1), 2)

    def test_numbers_of_people_up_to_60(self):
        for size in (1, 2, 60):
            for many in (0, size):
                self.assertGreaterEqual(office_count(size, many), 0)
                self.assertGreaterEqual(ring_count(size, many), 0)
            for length in (1, size):
                self.assertGreater(chain_total(size, length), 0)
            self.assertGreaterEqual(mean_chain(size), (1, 1))
            for many in (-1, size + 1, 61, True, None, "1", (1,)):
                self.fails(errors.BadCount, office_count, size, many)
                self.fails(errors.BadCount, ring_count, size, many)
                self.fails(errors.BadCount, chain_total, size, many)
            self.fails(errors.BadCount, chain_total, size, 0)
        for size in (0, 61, -1, True, "60", None, (60,), [1]):
            self.fails(errors.BadCount, naming_count, size)
            self.fails(errors.BadCount, mean_chain, size)
            for call in (office_count, ring_count, chain_total):
                self.fails(errors.BadCount, call, size, 1)

    def test_counts_up_to_6_are_so_for_few_people_too(self):
        for many in range(7):
            self.same(load_lots((-1,), 0, many), 1 if many < 2 else 0)
            self.same(greatest_load((-1,), many), (1, ()))
        self.fails(errors.BadCount, load_lots, (-1,), 0, 7)
        self.fails(errors.BadCount, greatest_load, (-1,), -1)

    def test_sizes_from_1_to_6(self):
        for size in range(1, 7):
            self.same(rounds((-1,) * size), ())
            self.same(order_chance((60,) * size, ()), (1, 1))
            self.same(order_by((1000,) * size), tuple(range(size)))
        for size in (0, 7, 8, 60):
            self.fails(errors.BadDeputies, rounds, (-1,) * size)
            self.fails(errors.BadWeights, order_chance, (60,) * size, ())
            self.fails(errors.BadDates, order_by, (1000,) * size)
            self.fails(errors.BadSize, fitting, size, (((), ()),))


def is_always_wrong(value):
    """Whether the value is wrong for any number of people, in the place of any argument that is no text."""
    return isinstance(value, bool) or not isinstance(value, (int, tuple))


class TooManyPeople(Case):
    def test_those_that_name_it(self):
        named = [call.__name__ for call, *_ in FUNCTIONS if "check_at_most(" in inspect.getsource(call)]
        self.assertEqual(sorted(named), sorted(too_many(6)))

    def test_too_many_comes_behind_each_other_error(self):
        for size in (5, 6):
            for function, (name, most, *values) in too_many(size).items():
                call = getattr(importlib.import_module("firstthere." + name), function)
                self.fails(errors.TooMany, call, *values, most=most)
                for at, error, wrong in wrong_ones(ARGUMENTS[name][function]):
                    for value, fields in wrong:
                        if is_always_wrong(value):
                            self.fails(error, call, *values[:at], value, *values[at + 1:], **fields)

    def test_sizes_of_5_and_6(self):
        for size in (5, 6):
            people = tuple(range(size))
            held = ((people[1:], (0,) * size),)
            self.same(fits((-1,) * size, held), False)
            for call in (fitting, sure_deputies, first_against):
                self.fails(errors.TooMany, call, size, held, most=4)
            self.fails(errors.TooMany, next_seen, size, held, people, most=4)
            self.fails(errors.TooMany, fitting_loads, size, ((people, (0,) * size + (size,)),), most=4)

    def test_sizes_up_to_4_are_not_too_many(self):
        for size in range(1, 5):
            held = (((), tuple(range(size))),)
            self.same(len(fitting(size, held)), size ** size)
            self.same(len(fitting_loads(size, (((), (1,) * size + (0,)),))), size ** size)
            self.same(sure_deputies(size, held), (-1,) if size == 1 else (None,) * size)
            self.same(next_seen(size, held, ()), (tuple(range(size)),))
            self.same(first_against(size, held), None)

    def test_sizes_of_5_and_6_without_sights(self):
        for size in (5, 6):
            deputies = (-1,) * size
            table = ((0,) * (size + 1),) * size
            lots = tuple((person,) for person in range(size))
            self.fails(errors.TooMany, least_tellers, size, most=4)
            self.fails(errors.TooMany, told_by, deputies, lots, most=4)
            self.fails(errors.TooMany, told_by, deputies, (), most=4)
            self.fails(errors.TooMany, fewest_changes, deputies, (0,), ((0, 1),), most=4)
            self.same([tells_all(size, lots), unlike_ones(size, lots), shows_unlike_ones(size, lots, None)],
                      [True, None, True])
            for many in (0, size):
                self.fails(errors.TooMany, best_deputies, size, table, many, most=4)
                for value in (((0, 1), deputies), None, 1):
                    self.fails(errors.TooMany, shows_best_deputies, size, table, many, value, most=4)
            for value in ((0, deputies), None, 1):
                self.fails(errors.TooMany, shows_fewest_changes, deputies, (), (), value, most=4)

    def test_counts_up_to_3_are_so_for_few_people_too(self):
        for many in range(4):
            self.same(fewest_sure((-1,), many), (0, (-1,)) if many == 0 else None)
        self.fails(errors.BadCount, fewest_sure, (-1,), 4)
        self.fails(errors.BadCount, fewest_sure, (-1,), -1)

    def test_7_people_together(self):
        for one, other in (((-1,) * 6, (-1,)), ((-1,), (-1,) * 6), ((1, 0, 0, 0), (1, 2, 0)), ((-1,) * 6, (-1,) * 6)):
            self.fails(errors.TooMany, beside, one, other, most=6)
        for value in NO_DEPUTIES:
            self.fails(errors.BadDeputies, beside, (-1,) * 6, value)
            self.fails(errors.BadDeputies, beside, value, (-1,) * 6)

    def test_all_other_errors_come_before_it(self):
        for size in (5, 6):
            deputies = (-1,) * size
            table = ((0,) * (size + 1),) * size
            for lots, index in ((None, None), (((),) * 31, None), ((0,), 0), (((), (size,)), 1), (((1, 0),), 0)):
                self.fails(errors.BadLots, told_by, deputies, lots, index=index)
            for call, *values in ((best_deputies,), (shows_best_deputies, None)):
                for rows in (None, table[1:], ((0,) * size,) * size, [table], ((101,) * (size + 1),) * size):
                    self.fails(errors.BadTable, call, size, rows, 0, *values)
                for many in (-1, size + 1, True, None, "0"):
                    self.fails(errors.BadCount, call, size, table, many, *values)
            for call, *values in ((fewest_changes,), (shows_fewest_changes, None)):
                for lot in ((size,), (1, 0), None, 0):
                    self.fails(errors.BadLot, call, deputies, lot, (), *values)
                for wanted, index in ((None, None), (((0, size),), 0), (((1, 0), (0, 1)), 1)):
                    self.fails(errors.BadWanted, call, deputies, (), wanted, *values, index=index)
        for size in (7, 0, True, None, "5", (5,), [5]):
            self.fails(errors.BadSize, least_tellers, size)
            self.fails(errors.BadSize, best_deputies, size, None, None)
        for deputies in ((-1,) * 7, (5, 0, 0, 0, 0), (-1, -1, -1, -1, -1, -1, 0), [-1] * 5):
            self.fails(errors.BadDeputies, told_by, deputies, None)
            self.fails(errors.BadDeputies, fewest_changes, deputies, None, None)

    def test_all_other_errors_come_first(self):
        for size in (5, 6):
            people = tuple(range(size))
            good = ((people, (-1,) * size),)
            for sights, index in ((None, None), ((), None), (good * 9, None), ((0,), 0), (good + (good,), 1)):
                for call in FOR_FEW:
                    values = (people,) if call is next_seen else ()
                    if call is not fitting_loads:
                        self.fails(errors.BadSights, call, size, sights, *values, index=index)
            for sights, index in ((None, None), ((), None), (good, 0), (((people, (0,) * size),), 0)):
                self.fails(errors.BadSights, fitting_loads, size, sights, index=index)
            for lot in NO_LOTS[:25] + ((size,), people[::-1], (0, 0)):
                self.fails(errors.BadLot, next_seen, size, good, lot)
            self.fails(errors.BadSights, next_seen, size, (None,), None, index=0)
        for call in FOR_FEW:
            values = (None,) if call is next_seen else ()
            for size in (7, 0, True, None, "5", (5,), [5]):
                self.fails(errors.BadSize, call, size, None, *values)


if __name__ == "__main__":
    unittest.main()
