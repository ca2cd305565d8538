"""The examples of the document's interface, word for word."""

import doctest
import unittest

EXAMPLES = {
    "deputies": """
>>> from firstthere.deputies import chain, held_by, holder, holders, loads
>>> [chain((1, -1, 0), 2), holder((1, -1, 0), (2,), 2), holders((1, -1, 0), (0, 2)), held_by((1, -1, 0), (0, 2), 1), loads((1, -1, 0), (1,))]
[(2, 0, 1), 0, (1, 1, 1), (0, 1, 2), (1, 0, 1, 1)]
""",
    "rings": """
>>> from firstthere.rings import behind, chain_lengths, rounds, steps_to_end, to_office
>>> [rounds((1, 0, 1, -1)), to_office((1, 0, 1, -1)), chain_lengths((1, 0, 1, -1)), steps_to_end((1, 0, 1, -1)), behind((1, 0, 1, -1), 1)]
[((0, 1),), (3,), (2, 2, 3, 1), (0, 0, 1, 0), (0, 1, 2)]
""",
    "leaving": """
>>> from firstthere.leaving import handing_count, handings, in_time, leaving
>>> [in_time((1, -1, 0), (2, 1)), handings((1, -1, 0), (1, 2, 0), 2), handing_count((1, -1, 0), (2, 0, 1)), leaving((1, -1, 0), (2,), 0)]
[((0, 1, 2), (0, 1, 0), (0, -1, 0)), (2, 0, -1), 6, ((0, 1), (2, 1))]
""",
    "orders": """
>>> from firstthere.orders import handing_orders, number_in, order_at, orders_with
>>> [orders_with((1, -1, 0), ((2, (2, 0, 1, -1)),)), order_at((1, -1), ((0, (0, 1, -1)),), 0), number_in((1, -1), (), (1, 0)), handing_orders((1, -1))]
[1, (0, 1), 1, (0, 0, 1, 1)]
""",
}


class Examples(unittest.TestCase):
    def test_examples(self):
        for name, text in EXAMPLES.items():
            with self.subTest(file=name):
                test = doctest.DocTestParser().get_doctest(text, {}, name, None, 0)
                told = []
                failed, tried = doctest.DocTestRunner().run(test, out=told.append)
                self.assertEqual((failed, tried), (0, 2), "".join(told))


if __name__ == "__main__":
    unittest.main()
