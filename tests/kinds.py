"""Kinds of arguments: for each an allowed value, the error, and wrong values with the fields that its error has."""

from firstthere import errors
from tests.wrong import (
    HELD, LOADS, NO_COSTS, NO_COUNTS_FROM_1, NO_COUNTS_TO_3, NO_COUNTS_TO_6, NO_DATES_ALONE, NO_DEPUTIES,
    NO_DEPUTIES_OF_3, NO_HOLDERS, NO_LIMITS, NO_LOAD_SIGHTS, NO_LOTS, NO_LOTS_IN_ROWS, NO_LOTS_OF_6_IN_ROWS, NO_ORDERS,
    NO_PEOPLE, NO_SIGHTS, NO_SIZES, NO_TABLES, NO_TEXTS, NO_TOLD, NO_WANTED, NO_WEIGHTS, NO_WEIGHTS_ALONE,
    NO_WHOLE_ORDERS, ODD_VALUES, ROWS)

DEPUTIES = ((1, -1, 0), errors.BadDeputies, [(value, {}) for value in NO_DEPUTIES])
PERSON = (2, errors.BadPerson, [(value, {}) for value in NO_PEOPLE])
HOLDER = (-1, errors.BadPerson, [(value, {}) for value in NO_HOLDERS])
LOT = ((0, 1), errors.BadLot, [(value, {}) for value in NO_LOTS])
ORDER = ((1, 0), errors.BadOrder, [(value, {}) for value in NO_ORDERS])
WHOLE_ORDER = ((1, 0, 2), errors.BadOrder, [(value, {}) for value in NO_WHOLE_ORDERS])
TOLD = ((), errors.BadTold, [(value, {"index": index}) for value, index in NO_TOLD])
NUMBER = (5, errors.BadNumber, [(value, {}) for value in ODD_VALUES + (-1, 6, 7, 1000, (0,), ())])
COUNT_TO_3 = (3, errors.BadCount, [(value, {}) for value in NO_COUNTS_TO_3])
COUNT_TO_6 = (6, errors.BadCount, [(value, {}) for value in NO_COUNTS_TO_6])
WEIGHTS = ((1, 60, 7), errors.BadWeights, [(value, {}) for value in NO_WEIGHTS])
WEIGHTS_ALONE = ((1, 60, 7), errors.BadWeights, [(value, {}) for value in NO_WEIGHTS_ALONE])
COSTS = ((0, 1000, 7), errors.BadCosts, [(value, {}) for value in NO_COSTS])
SIZE = (3, errors.BadSize, [(value, {}) for value in NO_SIZES])
SIGHTS = ((((0,), HELD),), errors.BadSights, [(value, {"index": index}) for value, index in NO_SIGHTS])
LOAD_SIGHTS = ((((0,), LOADS),), errors.BadSights, [(value, {"index": index}) for value, index in NO_LOAD_SIGHTS])
COUNT_FROM_1 = (60, errors.BadCount, [(value, {}) for value in NO_COUNTS_FROM_1])
SIZE_TO_60 = (3, errors.BadCount, [(value, {}) for value in NO_COUNTS_FROM_1])
COUNT_1_TO_3 = (1, errors.BadCount, [(value, {}) for value in NO_COUNTS_TO_3 + (0,)])
COUNT_1_TO_2 = (2, errors.BadCount, [(value, {}) for value in NO_COUNTS_TO_3 + (0, 3)])
COUNT_1_TO_6 = (6, errors.BadCount, [(value, {}) for value in NO_COUNTS_TO_6 + (0,)])
PLACES = ((0, 2), errors.BadPlaces, [(value, {}) for value in NO_LOTS])
LOTS = (((0, 1), (), (0, 1)), errors.BadLots, [(value, {"index": index}) for value, index in NO_LOTS_IN_ROWS])
TABLE = (ROWS, errors.BadTable, [(value, {}) for value in NO_TABLES])
WISHES = (ROWS, errors.BadWishes, [(value, {}) for value in NO_TABLES])
WANTED = (((0, 2), (2, -1)), errors.BadWanted, [(value, {"index": index}) for value, index in NO_WANTED])
DEPUTIES_OF_3 = ((-1, 0, 0), errors.BadDeputies, [(value, {}) for value in NO_DEPUTIES_OF_3])
DATES = ((0, 1000, 7), errors.BadDates, [(value, {}) for value in NO_COSTS])
DATES_ALONE = ((0, 1000, 7), errors.BadDates, [(value, {}) for value in NO_DATES_ALONE])
RATES = ((1, 60, 7), errors.BadWeights, [(value, {}) for value in NO_WEIGHTS])
RATES_ALONE = ((1, 60, 7), errors.BadWeights, [(value, {}) for value in NO_WEIGHTS_ALONE])
LOT_OF_SOME = ((0, 1), errors.BadLot, [(value, {}) for value in NO_LOTS + ((),)])
COUNT_0_TO_3 = (3, errors.BadCount, [(value, {}) for value in NO_COUNTS_TO_6 + (4, 5, 6)])
LOTS_OF_6 = (
    ((0, 5), (), (0, 5)), errors.BadLots, [(value, {"index": index}) for value, index in NO_LOTS_OF_6_IN_ROWS])
SIZES = ((0, 1000, 7), errors.BadSizes, [(value, {}) for value in NO_COSTS])
LIMITS = ((0, 6000, 1001), errors.BadLimits, [(value, {}) for value in NO_LIMITS])
TEXT = ("2>0 0>1 1>-", errors.NotText, [(value, {}) for value in NO_TEXTS])
LOTS_TEXT = ("2 0/-", errors.NotText, [(value, {}) for value in NO_TEXTS])
# The last argument of a `shows` function: no value of it is wrong.
ANY = (None, None, [(value, {}) for value in ODD_VALUES])

# Of each function of the interface, file by file, the kinds of its arguments.
ARGUMENTS = {
    "deputies": {
        "chain": (DEPUTIES, PERSON),
        "holder": (DEPUTIES, LOT, PERSON),
        "holders": (DEPUTIES, LOT),
        "held_by": (DEPUTIES, LOT, HOLDER),
        "loads": (DEPUTIES, LOT)},
    "rings": {
        "rounds": (DEPUTIES,),
        "to_office": (DEPUTIES,),
        "chain_lengths": (DEPUTIES,),
        "steps_to_end": (DEPUTIES,),
        "behind": (DEPUTIES, PERSON)},
    "leaving": {
        "in_time": (DEPUTIES, ORDER),
        "handings": (DEPUTIES, ORDER, PERSON),
        "handing_count": (DEPUTIES, ORDER),
        "leaving": (DEPUTIES, LOT, PERSON)},
    "orders": {
        "orders_with": (DEPUTIES, TOLD),
        "order_at": (DEPUTIES, TOLD, NUMBER),
        "number_in": (DEPUTIES, TOLD, WHOLE_ORDER),
        "handing_orders": (DEPUTIES,)},
    "chances": {
        "ever_chance": (DEPUTIES, PERSON, HOLDER),
        "handing_chances": (DEPUTIES, PERSON),
        "mean_handings": (DEPUTIES,),
        "hold_chance": (DEPUTIES, COUNT_TO_3, PERSON, HOLDER),
        "mean_loads": (DEPUTIES, COUNT_TO_3),
        "together_chance": (DEPUTIES, COUNT_TO_3, PERSON, PERSON)},
    "weights": {
        "order_chance": (WEIGHTS_ALONE, ORDER),
        "ahead_chance": (WEIGHTS_ALONE, LOT, PERSON),
        "last_chances": (WEIGHTS_ALONE,),
        "lot_chance": (WEIGHTS_ALONE, LOT),
        "ever_chance_by": (DEPUTIES, WEIGHTS, PERSON, HOLDER),
        "hold_chances_by": (DEPUTIES, WEIGHTS, COUNT_TO_3, PERSON),
        "mean_handings_by": (DEPUTIES, WEIGHTS)},
    "needed": {
        "least_gone": (DEPUTIES, PERSON, HOLDER),
        "fewest_load": (DEPUTIES, PERSON, COUNT_TO_6),
        "shows_fewest_load": (DEPUTIES, PERSON, COUNT_TO_6, ANY),
        "load_lots": (DEPUTIES, PERSON, COUNT_TO_6),
        "greatest_load": (DEPUTIES, COUNT_TO_6),
        "shows_greatest_load": (DEPUTIES, COUNT_TO_6, ANY)},
    "keeping": {
        "keepers": (DEPUTIES,),
        "shows_keepers": (DEPUTIES, ANY),
        "keeper_count": (DEPUTIES,),
        "apart_chains": (DEPUTIES,),
        "shows_apart_chains": (DEPUTIES, ANY),
        "safe_count": (DEPUTIES,)},
    "costs": {
        "cheap_keepers": (DEPUTIES, COSTS),
        "shows_cheap_keepers": (DEPUTIES, COSTS, ANY),
        "keeper_paper": (DEPUTIES, COSTS),
        "shows_keeper_paper": (DEPUTIES, COSTS, ANY)},
    "sights": {
        "fitting": (SIZE, SIGHTS),
        "fits": (DEPUTIES, SIGHTS),
        "sure_deputies": (SIZE, SIGHTS),
        "next_seen": (SIZE, SIGHTS, LOT),
        "first_against": (SIZE, SIGHTS),
        "fitting_loads": (SIZE, LOAD_SIGHTS)},
    "telling": {
        "tells_all": (SIZE, LOTS),
        "unlike_ones": (SIZE, LOTS),
        "shows_unlike_ones": (SIZE, LOTS, ANY),
        "least_tellers": (SIZE,),
        "told_by": (DEPUTIES, LOTS)},
    "worths": {
        "worth": (DEPUTIES, TABLE, LOT),
        "mean_worth": (DEPUTIES, TABLE, COUNT_TO_3),
        "best_deputies": (SIZE, TABLE, COUNT_TO_3),
        "shows_best_deputies": (SIZE, TABLE, COUNT_TO_3, ANY),
        "best_order": (DEPUTIES, TABLE),
        "shows_best_order": (DEPUTIES, TABLE, ANY),
        "order_total": (DEPUTIES, TABLE, ORDER)},
    "changing": {
        "fewest_changes": (DEPUTIES, LOT, WANTED),
        "shows_fewest_changes": (DEPUTIES, LOT, WANTED, ANY)},
    "counts": {
        "naming_count": (COUNT_FROM_1,),
        "office_count": (SIZE_TO_60, COUNT_TO_3),
        "ring_count": (SIZE_TO_60, COUNT_TO_3),
        "chain_total": (SIZE_TO_60, COUNT_1_TO_3),
        "mean_chain": (COUNT_FROM_1,)},
    "naming": {
        "reduced": (DEPUTIES, LOT),
        "renamed": (DEPUTIES, WHOLE_ORDER),
        "first_common": (DEPUTIES, PERSON, PERSON),
        "join_lot": (DEPUTIES, PERSON, PERSON),
        "shows_join_lot": (DEPUTIES, PERSON, PERSON, ANY)},
    "moments": {
        "moment": (DEPUTIES, ORDER, PERSON, HOLDER),
        "out_chances": (DEPUTIES, PERSON),
        "mean_out": (DEPUTIES, PERSON),
        "holding_time": (DEPUTIES, PERSON, PERSON),
        "record_orders": (SIZE_TO_60, PLACES)},
    "hands": {
        "late_end": (DEPUTIES, PERSON),
        "early_end": (DEPUTIES, PERSON),
        "late_moves": (DEPUTIES, LOT, PERSON),
        "wins_duty": (DEPUTIES, PERSON, PERSON)},
    "days": {
        "plan": (DEPUTIES, LOTS),
        "day_sums": (DEPUTIES, LOTS),
        "fewest_days": (DEPUTIES, COUNT_1_TO_6),
        "day_parting": (DEPUTIES, COUNT_1_TO_6),
        "fair_lot": (DEPUTIES, COUNT_TO_3),
        "shows_day_parting": (DEPUTIES, COUNT_1_TO_6, ANY),
        "shows_fair_lot": (DEPUTIES, COUNT_TO_3, ANY)},
    "limits": {
        "best_naming": (SIZE, WISHES, COUNT_1_TO_6),
        "naming_paper": (SIZE, WISHES, COUNT_1_TO_6),
        "best_change": (DEPUTIES, TABLE, COUNT_TO_3),
        "shows_best_naming": (SIZE, WISHES, COUNT_1_TO_6, ANY),
        "shows_naming_paper": (SIZE, WISHES, COUNT_1_TO_6, ANY),
        "is_settled": (DEPUTIES, TABLE, COUNT_TO_3)},
    "randoms": {
        "random_out": (SIZE_TO_60, COUNT_1_TO_3),
        "random_hold": (SIZE_TO_60, COUNT_1_TO_2),
        "random_loads": (SIZE_TO_60, COUNT_TO_3),
        "length_chances": (COUNT_FROM_1,)},
    "meeting": {
        "ever_orders": (DEPUTIES, PERSON, HOLDER),
        "last_orders": (DEPUTIES, PERSON, PERSON),
        "meeting_orders": (DEPUTIES, PERSON, PERSON),
        "load_chances": (DEPUTIES, PERSON),
        "office_chances": (DEPUTIES, COUNT_TO_3),
        "place_chances": (WEIGHTS_ALONE, PERSON),
        "likely_order": (WEIGHTS_ALONE,)},
    "nets": {
        "cheap_order": (DEPUTIES, COSTS),
        "best_lot": (DEPUTIES, TABLE, COSTS),
        "order_cost": (DEPUTIES, COSTS, ORDER),
        "shows_cheap_order": (DEPUTIES, COSTS, ANY),
        "shows_best_lot": (DEPUTIES, TABLE, COSTS, ANY)},
    "closed": {
        "closed_lots": (DEPUTIES,),
        "unlike_lots": (DEPUTIES, DEPUTIES_OF_3),
        "closure": (DEPUTIES, LOT),
        "beside": (DEPUTIES, DEPUTIES)},
    "texts": {
        "write_deputies": (DEPUTIES,),
        "read_deputies": (TEXT,)},
    "offices": {
        "Office": (DEPUTIES,)},
    "dates": {
        "order_by": (DATES_ALONE,),
        "duty_days": (DEPUTIES, DATES),
        "spans": (DEPUTIES, DATES, PERSON),
        "busiest_date": (DEPUTIES, DATES),
        "out_date": (DEPUTIES, DATES, PERSON)},
    "rates": {
        "mean_stay": (RATES_ALONE, LOT_OF_SOME),
        "mean_out_by": (DEPUTIES, RATES, PERSON),
        "mean_hold_by": (DEPUTIES, RATES, PERSON, PERSON),
        "load_times": (DEPUTIES, RATES)},
    "sure": {
        "least_chain": (DEPUTIES,),
        "surest": (DEPUTIES,),
        "sure_count": (SIZE_TO_60, COUNT_TO_3),
        "fewest_sure": (DEPUTIES, COUNT_0_TO_3),
        "shows_fewest_sure": (DEPUTIES, COUNT_0_TO_3, ANY),
        "spread": (DEPUTIES, COUNT_TO_3),
        "both_out": (DEPUTIES, COUNT_TO_3, PERSON, PERSON)},
    "doubts": {
        "deputy_chances": (SIZE, SIGHTS, PERSON),
        "holder_chances": (SIZE, SIGHTS, LOT, PERSON)},
    "lottexts": {
        "write_lots": (LOTS_OF_6,),
        "read_lots": (LOTS_TEXT,)},
    "sized": {
        "sized_loads": (DEPUTIES, SIZES, LOT),
        "can_leave": (DEPUTIES, SIZES, LIMITS, LOT),
        "shows_largest_leave": (DEPUTIES, SIZES, LIMITS, ANY),
        "largest_leave": (DEPUTIES, SIZES, LIMITS),
        "leave_count": (DEPUTIES, SIZES, LIMITS)},
    "shapes": {
        "most_handings": (DEPUTIES,),
        "shows_most_handings": (DEPUTIES, ANY),
        "alike": (DEPUTIES, DEPUTIES_OF_3),
        "shape": (DEPUTIES,),
        "own_names": (DEPUTIES,),
        "told_chance": (DEPUTIES, WEIGHTS, TOLD),
        "handing_chances_by": (DEPUTIES, WEIGHTS, PERSON)},
}


def too_many(size):
    """Of each function that names `TooMany`: its file, its most, and allowed arguments for so many people."""
    people = tuple(range(size))
    deputies = (-1,) * size
    rows = ((0,) * (size + 1),) * size
    seen = (((), people),)
    found = {
        "fitting": ("sights", 4, size, seen),
        "sure_deputies": ("sights", 4, size, seen),
        "next_seen": ("sights", 4, size, seen, people),
        "first_against": ("sights", 4, size, seen),
        "fitting_loads": ("sights", 4, size, (((), (1,) * size + (0,)),)),
        "least_tellers": ("telling", 4, size),
        "told_by": ("telling", 4, deputies, (people,)),
        "best_deputies": ("worths", 4, size, rows, size),
        "shows_best_deputies": ("worths", 4, size, rows, size, ((0, 1), deputies)),
        "fewest_changes": ("changing", 4, deputies, people, ((0, -1),)),
        "shows_fewest_changes": ("changing", 4, deputies, people, ((0, -1),), (0, deputies)),
        "naming_paper": ("limits", 5, size, rows, 6),
        "shows_naming_paper": ("limits", 5, size, rows, 6, (((0, 1),) * size,) * 2),
        "beside": ("closed", 6, deputies, (-1,) * 6),
        "fewest_sure": ("sure", 4, deputies, 3),
        "shows_fewest_sure": ("sure", 4, deputies, 3, None),
        "deputy_chances": ("doubts", 4, size, seen, size - 1),
        "holder_chances": ("doubts", 4, size, seen, people, size - 1),
    }
    return {function: row for function, row in found.items() if row[1] != 5 or size == 6}
