"""The examples of the document's interface, word for word."""

import doctest
import unittest

from firstthere.errors import InvalidText
from firstthere.texts import read_deputies

EXAMPLES = {
    "deputies": """
>>> from firstthere.deputies import chain, held_by, holder, holders, loads
>>> [chain((1, -1, 0), 2), holder((1, -1, 0), (2,), 2), holders((1, -1, 0), (0, 2)), held_by((1, -1, 0), (0, 2), 1), loads((1, -1, 0), (1,))]
[(2, 0, 1), 0, (1, 1, 1), (0, 1, 2), (1, 0, 1, 1)]
""",
    "rings": """
>>> from firstthere.rings import behind, chain_lengths, rounds, steps_to_end, to_office
>>> [rounds((1, 0, 1, -1)), to_office((1, 0, 1, -1)), chain_lengths((1, 0, 1, -1)), steps_to_end((1, 0, 1, -1)), behind((1, 0, 1, -1), 1)]
[((0, 1),), (3,), (2, 2, 3, 1), (0, 0, 1, 0), (0, 1, 2)]
""",
    "leaving": """
>>> from firstthere.leaving import handing_count, handings, in_time, leaving
>>> [in_time((1, -1, 0), (2, 1)), handings((1, -1, 0), (1, 2, 0), 2), handing_count((1, -1, 0), (2, 0, 1)), leaving((1, -1, 0), (2,), 0)]
[((0, 1, 2), (0, 1, 0), (0, -1, 0)), (2, 0, -1), 6, ((0, 1), (2, 1))]
""",
    "orders": """
>>> from firstthere.orders import handing_orders, number_in, order_at, orders_with
>>> [orders_with((1, -1, 0), ((2, (2, 0, 1, -1)),)), order_at((1, -1), ((0, (0, 1, -1)),), 0), number_in((1, -1), (), (1, 0)), handing_orders((1, -1))]
[1, (0, 1), 1, (0, 0, 1, 1)]
""",
    "chances": """
>>> from firstthere.chances import ever_chance, handing_chances, hold_chance, mean_handings, mean_loads, together_chance
>>> [ever_chance((1, -1, 0), 2, 1), handing_chances((1, -1, 0), 2), mean_handings((1, -1)), hold_chance((1, -1, 0), 1, 2, 0), mean_loads((1, -1), 1), together_chance((1, -1), 1, 0, 1)]
[(1, 3), ((0, 1), (1, 3), (1, 2), (1, 6)), (5, 2), (1, 3), ((1, 2), (1, 1), (1, 2)), (1, 2)]
""",
    "weights": """
>>> from firstthere.weights import ahead_chance, ever_chance_by, hold_chances_by, last_chances, lot_chance, mean_handings_by, order_chance
>>> [order_chance((1, 2), (1, 0)), ahead_chance((1, 2), (1,), 0), lot_chance((1, 2), (0,)), last_chances((1, 2)), ever_chance_by((1, -1), (1, 2), 0, 1), hold_chances_by((1, -1), (1, 2), 1, 0), mean_handings_by((1, -1), (1, 2))]
[(2, 3), (2, 3), (1, 3), ((2, 3), (1, 3)), (1, 3), ((2, 3), (1, 3), (0, 1)), (7, 3)]
""",
    "needed": """
>>> from firstthere.needed import fewest_load, greatest_load, least_gone, load_lots, shows_greatest_load
>>> [least_gone((1, -1, 0), 2, 1), fewest_load((1, -1, 0), 1, 3), fewest_load((1, -1, 0), 2, 2), load_lots((1, -1, 0), 1, 2), greatest_load((1, -1, 0), 2), shows_greatest_load((1, -1, 0), 1, (2, (0,)))]
[(0, 2), (0, 2), None, 2, (3, (0, 2)), True]
""",
    "keeping": """
>>> from firstthere.keeping import apart_chains, keeper_count, keepers, safe_count, shows_apart_chains
>>> [keepers((1, 0, 1, -1)), keeper_count((1, 0, 1, -1)), safe_count((1, 0, 1, -1)), shows_apart_chains((1, 0, 1, -1), (1, 3)), len(apart_chains((1, 0, 1, -1)))]
[(0, 3), 2, 6, True, 2]
""",
    "costs": """
>>> from firstthere.costs import cheap_keepers, shows_keeper_paper
>>> [cheap_keepers((1, 0, 1), (5, 3, 1)), shows_keeper_paper((1, 0, 1), (5, 3, 1), ((3, 1), (0, 1), (0, 1)))]
[(3, (1,)), True]
""",
    "sights": """
>>> from firstthere.sights import first_against, fits, fitting, fitting_loads, next_seen, sure_deputies
>>> [fitting(2, (((0,), (1, 1)),)), fits((1, -1), (((0,), (1, 1)),)), sure_deputies(2, (((0,), (1, 1)),)), next_seen(2, (((0,), (1, 1)),), (1,)), first_against(2, (((0,), (1, 1)), ((0,), (-1, 1)))), fitting_loads(2, (((0, 1), (0, 0, 2)),))]
[((1, -1), (1, 0)), True, (1, None), ((0, -1), (0, 0)), 2, ((-1, -1), (-1, 0), (1, -1), (1, 0))]
""",
    "telling": """
>>> from firstthere.telling import least_tellers, tells_all, told_by, unlike_ones
>>> [tells_all(2, ((0,), (1,))), tells_all(2, ((0, 1),)), least_tellers(3), told_by((-1, -1), ((0,), (1,))), unlike_ones(2, ((0,), (1,)))]
[True, False, 3, True, None]
""",
    "worths": """
>>> from firstthere.worths import best_order, mean_worth, order_total, shows_best_deputies, worth
>>> table = ((3, 1, 0), (0, 5, 0))
>>> [worth((1, -1), table, (0,)), mean_worth((1, -1), table, 1), order_total((1, -1), table, (0, 1)), best_order((1, -1), table), shows_best_deputies(2, table, 1, ((9, 2), (1, -1)))]
[6, (9, 2), 6, (6, (0, 1)), True]
""",
    "changing": """
>>> from firstthere.changing import fewest_changes
>>> [fewest_changes((-1, -1), (0,), ((0, 1),)), fewest_changes((1, -1), (), ((0, 1),))]
[(1, (1, -1)), None]
""",
    "counts": """
>>> from firstthere.counts import chain_total, mean_chain, naming_count, office_count, ring_count
>>> [naming_count(3), office_count(3, 1), ring_count(3, 2), chain_total(2, 1), mean_chain(2)]
[27, 12, 9, 4, (3, 2)]
""",
    "naming": """
>>> from firstthere.naming import first_common, join_lot, reduced, renamed
>>> [reduced((1, 2, -1, 0), (1,)), renamed((1, -1, 0), (2, 0, 1)), first_common((1, -1, 0), 2, 0), join_lot((1, -1, 0), 2, 0), join_lot((-1, -1), 0, 1)]
[(2, 2, -1, 0), (-1, 2, 0), 0, (2,), None]
""",
    "moments": """
>>> from firstthere.moments import holding_time, mean_out, moment, out_chances, record_orders
>>> [moment((1, -1, 0), (0, 2, 1), 2, 1), moment((1, -1), (1,), 0, 1), out_chances((1, -1), 0), mean_out((1, -1), 1), holding_time((1, -1), 0, 1), record_orders(3, (0, 2))]
[2, None, ((0, 1), (0, 1), (1, 1)), (3, 2), (1, 2), 1]
""",
    "hands": """
>>> from firstthere.hands import early_end, late_end, late_moves, wins_duty
>>> [late_end((-1, -1, 0), 0), early_end((-1, -1, 0), 0), late_moves((-1, -1, 0), (), 0), wins_duty((1, -1, 0), 2, 0)]
[2, 1, (1, 2), True]
""",
    "days": """
>>> from firstthere.days import day_parting, day_sums, fair_lot, fewest_days, plan
>>> [plan((1, 0), ((0,), (1,))), day_sums((1, 0), ((0,), (1,))), fewest_days((1, 0), 2), day_parting((1, 0), 2), fewest_days((1, -1), 6), fair_lot((1, -1), 1)]
[((1, 1), (0, 0)), (2, 2, 0), 2, ((0,), (1,)), None, (1, (1,))]
""",
    "limits": """
>>> from firstthere.limits import best_naming, is_settled, shows_naming_paper
>>> wishes = ((0, 4, 0, 1), (2, 0, 3, 0), (0, 6, 0, 2))
>>> [best_naming(3, wishes, 1), is_settled((1, 2, 1), wishes, 1), shows_naming_paper(3, wishes, 1, (((1, 1), (3, 1), (3, 1)), ((0, 1), (3, 1), (0, 1))))]
[(10, (-1, 2, 1)), True, True]
""",
    "randoms": """
>>> from firstthere.randoms import length_chances, random_hold, random_loads, random_out
>>> [random_out(3, 1), random_hold(3, 1), random_loads(2, 1), length_chances(2)]
[(1, 3), (1, 3), ((3, 2), (1, 2)), ((1, 2), (1, 2))]
""",
    "meeting": """
>>> from firstthere.meeting import ever_orders, last_orders, likely_order, load_chances, meeting_orders, office_chances, place_chances
>>> [ever_orders((1, -1, 0), 2, 0), last_orders((1, -1, 0), 2, 1), meeting_orders((1, -1, 0), 2, 0), load_chances((1, -1), 1), office_chances((1, -1), 1), place_chances((1, 2), 0), likely_order((1, 2, 2))]
[3, 2, 4, ((0, 1), (1, 2), (1, 2)), ((1, 2), (1, 2), (0, 1)), ((1, 3), (2, 3)), (1, 2, 0)]
""",
    "nets": """
>>> from firstthere.nets import best_lot, cheap_order, order_cost
>>> [order_cost((1, -1), (2, 5), (0, 1)), cheap_order((1, -1), (2, 5)), best_lot((1, -1), ((0, 4, 0), (0, 1, 0)), (1, 1))]
[12, (7, (1, 0)), (4, (0,))]
""",
    "closed": """
>>> from firstthere.closed import beside, closed_lots, closure, unlike_lots
>>> [closed_lots((1, -1, 0)), closure((1, -1, 0), (0,)), unlike_lots((1, -1), (-1, -1)), beside((1, -1), (1, 0))]
[((), (0, 1), (0, 1, 2), (1,)), (0, 1), ((0,),), (1, -1, 3, 2)]
""",
    "texts": """
>>> from firstthere.texts import read_deputies, write_deputies
>>> [write_deputies((1, -1, 0)), read_deputies('2>0 0 > 1 1>-')]
['0>1 1>- 2>0', (1, -1, 0)]
""",
    "offices": """
>>> from firstthere.offices import Office
>>> office = Office((1, -1, 0))
>>> [office.leave(2), office.leave(0), office.holders(), office.gone(), office.order(), office.undo(), office.holders()]
[((2, 0),), ((0, 1), (2, 1)), (1, 1, 1), (0, 2), (2, 0), None, (0, 1, 0)]
""",
    "dates": """
>>> from firstthere.dates import busiest_date, duty_days, order_by, out_date, spans
>>> [order_by((5, 2, 5)), spans((1, -1, 0), (3, 9, 0), 2), duty_days((1, -1, 0), (3, 9, 0)), busiest_date((1, -1, 0), (3, 9, 0)), out_date((1, -1, 0), (3, 9, 0), 2)]
[(1, 0, 2), ((0, 0, 3), (1, 3, 9)), (6, 21, 0), (3, 3), 9]
""",
    "rates": """
>>> from firstthere.rates import load_times, mean_hold_by, mean_out_by, mean_stay
>>> [mean_stay((1, 2), (0, 1)), mean_out_by((1, -1), (1, 2), 1), mean_hold_by((1, -1), (1, 2), 0, 1), load_times((1, -1), (1, 2))]
[(7, 6), (1, 2), (1, 6), ((1, 1), (2, 3))]
""",
    "sure": """
>>> from firstthere.sure import both_out, fewest_sure, least_chain, spread, sure_count, surest
>>> [least_chain((1, 0, 1)), surest((1, 0, 1)), sure_count(3, 1), fewest_sure((1, -1), 1), spread((1, -1), 1), both_out((1, -1), 2, 0, 1)]
[2, 1, 8, (1, (1, 0)), (1, 4), (1, 1)]
""",
    "doubts": """
>>> from firstthere.doubts import deputy_chances, holder_chances
>>> [deputy_chances(2, (((0,), (1, 1)),), 1), holder_chances(2, (((0,), (1, 1)),), (1,), 1)]
[((1, 2), (0, 1), (1, 2)), ((1, 2), (0, 1), (1, 2))]
""",
    "lottexts": """
>>> from firstthere.lottexts import read_lots, write_lots
>>> [write_lots(((0, 2), (), (1,))), read_lots('2 0/-'), read_lots('  ')]
['0 2 / - / 1', ((0, 2), ()), ()]
""",
    "sized": """
>>> from firstthere.sized import can_leave, largest_leave, leave_count, sized_loads
>>> [sized_loads((1, -1), (2, 3), (0,)), can_leave((1, 0), (2, 3), (5, 4), (0,)), largest_leave((1, 0), (2, 3), (5, 4)), leave_count((1, 0), (2, 3), (5, 4))]
[(0, 5, 0), False, (1, (1,)), 2]
""",
    "shapes": """
>>> from firstthere.shapes import alike, handing_chances_by, most_handings, own_names, shape, told_chance
>>> [most_handings((1, -1)), shape((1, -1)), alike((1, -1), (-1, 0)), own_names((1, 0)), told_chance((1, -1), (1, 2), ((0, (0, 1, -1)),)), handing_chances_by((1, -1), (1, 2), 0)]
[(3, (0, 1)), (-1, 0), True, 2, (1, 3), ((0, 1), (2, 3), (1, 3))]
""",
}


class Examples(unittest.TestCase):
    def test_examples(self):
        for name, text in EXAMPLES.items():
            with self.subTest(file=name):
                test = doctest.DocTestParser().get_doctest(text, {}, name, None, 0)
                told = []
                failed, tried = doctest.DocTestRunner().run(test, out=told.append)
                self.assertEqual((failed, tried), (0, text.count(">>>")), "".join(told))

    def test_the_example_that_raises(self):
        with self.assertRaises(InvalidText) as caught:
            read_deputies('0>1 1>1')
        self.assertEqual(vars(caught.exception), {"place": 6})


if __name__ == "__main__":
    unittest.main()
