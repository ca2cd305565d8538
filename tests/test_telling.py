"""Which lots tell all deputies apart (point 11)."""

import itertools
import unittest

from firstthere.errors import BadLots
from firstthere.telling import least_tellers, shows_unlike_ones, tells_all, told_by, unlike_ones
from tests.support import LARGE, ODD_VALUES, Case, all_deputies, all_lots, held_when, near


def row_of(deputies, lots):
    return tuple(held_when(deputies, lot) for lot in lots)


def all_unlike(size, lots):
    """All ascending pairs of unlike deputies that have the same holders for each of the lots."""
    alike = {}
    for deputies in sorted(all_deputies(size)):
        alike.setdefault(row_of(deputies, lots), []).append(deputies)
    return sorted(pair for found in alike.values() for pair in itertools.combinations(found, 2))


def some_lots(size):
    """For sizes of at most 3 each choice of lots; for size 4 many of the lots that tell all, less one, and others."""
    known = all_lots(size)
    if size < 4:
        choices = [chosen for many in range(len(known) + 1) for chosen in itertools.combinations(known, many)]
    else:
        choices = [known[:many] for many in range(0, 17, 2)] + [known[many:] for many in range(1, 17, 3)]
        choices += [known[1:5], known[1:4] + known[5:11], known[2:11], known[4:11], known[1:3] + known[5:11]]
        choices += [known[2:5] + [lot for lot in known[5:11] if lot != left] for left in known[5:11]]
        choices += [known[5:11], known[5:], known[:1] * 30, (known[1:5] * 8)[:30]]
    return [tuple(chosen) for chosen in choices]


class WorkedOut(Case):
    def test_no_lots(self):
        self.same([tells_all(1, ()), unlike_ones(1, ()), told_by((-1,), ())], [True, None, True])
        for size in range(2, 7):
            self.same(tells_all(size, ()), False)
            self.same(shows_unlike_ones(size, (), unlike_ones(size, ())), True)
            self.same(shows_unlike_ones(size, (), None), False)
        for size in range(2, 5):
            self.same(told_by((-1,) * size, ()), False)

    def test_size_1(self):
        for lots in ((), ((),), ((0,),), ((), (0,)), ((0,),) * 30):
            self.same([tells_all(1, lots), unlike_ones(1, lots), told_by((-1,), lots)], [True, None, True])
            self.same(shows_unlike_ones(1, lots, None), True)
            self.same(shows_unlike_ones(1, lots, ((-1,), (-1,))), False)

    def test_size_2(self):
        self.same(tells_all(2, ((0,), (1,))), True)
        self.same(tells_all(2, ((0,),)), False)
        self.same(tells_all(2, ((0,), (0, 1), ())), False)
        self.same(unlike_ones(2, ((0,), (1,))), None)
        self.same(shows_unlike_ones(2, ((0,),), ((1, -1), (1, 0))), True)
        self.same(shows_unlike_ones(2, ((0,),), ((1, 0), (1, -1))), False)
        self.same(shows_unlike_ones(2, ((0,),), ((-1, -1), (1, -1))), False)

    def test_all_alone_tell_all(self):
        for size in range(1, 7):
            alone = tuple((person,) for person in range(size))
            self.same(tells_all(size, alone), True)
            self.same(tells_all(size, alone[::-1]), True)
            self.same(unlike_ones(size, alone), None)
            if size > 1:
                self.same(tells_all(size, alone[:-1]), False)

    def test_one_and_the_same_lot_twice(self):
        self.same(tells_all(2, ((0,), (0,))), False)
        self.same(tells_all(2, ((0,), (0,), (1,), (1,))), True)
        self.same(tells_all(3, ((0,), (1,), (2,)) * 10), True)
        self.same(told_by((1, -1), ((0,), (0,))), False)
        self.same(told_by((1, -1), ((1,), (0,), (1,), (0,))), True)

    def test_without_one_pair(self):
        # All but what tells apart whether 0 names 1 or 2.
        lots = ((1,), (2,), (3,), (0, 1), (0, 2), (0, 1, 2))
        self.same(tells_all(4, lots), False)
        self.same(tells_all(4, lots + ((0, 3),)), True)
        self.same(all_unlike(4, lots + ((0, 3),)), [])
        self.same(shows_unlike_ones(4, lots, ((1, 2, 1, -1), (2, 2, 1, -1))), True)
        self.same(shows_unlike_ones(4, lots, ((1, -1, 1, -1), (2, -1, 1, -1))), False)

    def test_least_tellers(self):
        self.same([least_tellers(size) for size in range(1, 5)], [0, 2, 3, 4])

    def test_told_by(self):
        self.same(told_by((1, 0), ((0,),)), False)
        self.same(told_by((1, 2, 0), ((0,), (1,), (2,))), True)
        self.same(told_by((1, 2, 0), ((0, 1), (2,))), False)
        self.same(told_by((1, 2, 3, 0), ((0, 1, 2), (3,))), False)
        self.same(told_by((1, 2, 0), ((0,), (1, 2))), False)
        self.same(told_by((-1, -1, -1), ((0, 1), (1, 2), (0, 2))), True)
        self.same(told_by((1, -1, -1), ((0, 1), (1, 2), (0, 2))), True)
        self.same(told_by((1, -1, -1), ((0, 1), (1,), (2,))), False)


class AllDeputies(Case):
    def test_tells_all_and_unlike_ones(self):
        for size in range(1, 5):
            for lots in some_lots(size):
                found = all_unlike(size, lots)
                with self.subTest(size=size, lots=lots):
                    self.same(tells_all(size, lots), not found)
                    pair = unlike_ones(size, lots)
                    if found:
                        self.assertIn(repr(pair), [repr(each) for each in found])
                    else:
                        self.same(pair, None)

    def test_both_answers_come(self):
        for size in (2, 3, 4):
            answers = {tells_all(size, lots) for lots in some_lots(size)}
            self.assertEqual(answers, {True, False})

    def test_size_5(self):
        known = all_lots(5)
        pairs, threes = known[6:16], known[16:26]
        for lots in (known[1:6], pairs, pairs[1:], threes, threes[1:], threes[:1] + pairs[:9], known[2:5] + threes):
            found = all_unlike(5, tuple(lots))
            with self.subTest(lots=lots):
                self.same(tells_all(5, tuple(lots)), not found)
                self.same(shows_unlike_ones(5, tuple(lots), unlike_ones(5, tuple(lots))), True)
                self.same(shows_unlike_ones(5, tuple(lots), None), not found)
                if found:
                    self.assertIn(unlike_ones(5, tuple(lots)), found)

    def test_size_6(self):
        for lots in (all_lots(6)[22:42], all_lots(6)[42:57], all_lots(6)[21:50], all_lots(6)[:21], all_lots(6)[7:22]):
            lots = tuple(lots)
            pair = unlike_ones(6, lots)
            with self.subTest(lots=lots):
                if pair is None:
                    # Some lot has x and neither d nor e, for each three unlike people.
                    for x, d, e in itertools.permutations(range(6), 3):
                        self.assertTrue([lot for lot in lots if x in lot and d not in lot and e not in lot])
                else:
                    self.assertEqual(pair, tuple(sorted(set(pair))))
                    self.assertEqual(row_of(pair[0], lots), row_of(pair[1], lots))
                self.same(tells_all(6, lots), pair is None)
                self.same(shows_unlike_ones(6, lots, pair), True)
        self.same(tells_all(6, tuple(all_lots(6)[22:42])), True)
        self.same(tells_all(6, tuple(all_lots(6)[42:57])), True)
        self.same(tells_all(6, tuple(all_lots(6)[43:57])), False)
        self.same(tells_all(6, tuple(all_lots(6)[57:63])), False)

    def test_least_tellers(self):
        for size in range(1, 4):
            told = [len(lots) for lots in some_lots(size) if not all_unlike(size, lots)]
            self.same(least_tellers(size), min(told))
        for lots in itertools.combinations(all_lots(4), 3):
            rows = {row_of(deputies, lots) for deputies in all_deputies(4)}
            self.assertLess(len(rows), 256)

    def test_told_by(self):
        for size in range(1, 5):
            for lots in some_lots(size)[::3]:
                rows = [row_of(deputies, lots) for deputies in all_deputies(size)]
                for deputies in all_deputies(size)[::1 if size < 4 else 23]:
                    with self.subTest(deputies=deputies, lots=lots):
                        self.same(told_by(deputies, lots), rows.count(row_of(deputies, lots)) == 1)


class Shows(Case):
    def test_unlike_ones(self):
        for size in range(1, 4):
            pairs = list(itertools.product(all_deputies(size), repeat=2))
            for lots in some_lots(size)[::11]:
                good = all_unlike(size, lots) or [None]
                self.shows(shows_unlike_ones, (size, lots), good, pairs)
                self.assertIs(shows_unlike_ones(size, lots, unlike_ones(size, lots)), True)

    def test_unlike_ones_of_4_people(self):
        pairs = list(itertools.combinations(all_deputies(4)[::11], 2))
        for lots in some_lots(4)[::5]:
            found = all_unlike(4, lots)
            texts = {repr(pair) for pair in found or [None]}
            near_ones = [like for pair in found[::1 + len(found) // 3] for like in near(pair)]
            for value in (*pairs, *(pair[::-1] for pair in pairs), *near_ones, *ODD_VALUES, 0, ()):
                self.assertIs(shows_unlike_ones(4, lots, value), repr(value) in texts)

    def test_more_people(self):
        for one in LARGE:
            size = len(one)
            other = (*one[:-1], -1 if one[-1] != -1 else 0)
            pair = tuple(sorted((one, other)))
            told = [lot for lot in all_lots(size) if held_when(one, lot) != held_when(other, lot)]
            lots = tuple(lot for lot in all_lots(size) if lot not in told)[-30:]
            self.assertIs(shows_unlike_ones(size, lots, pair), True)
            self.assertIs(shows_unlike_ones(size, (*lots[1:], told[0]), pair), False)
            self.assertIs(shows_unlike_ones(size, (told[-1], *lots[1:]), pair), False)
            self.assertIs(shows_unlike_ones(size, lots, pair[::-1]), False)
            self.assertIs(shows_unlike_ones(size, lots, (one, one)), False)

    def test_values_of_another_size(self):
        for value in (((-1,), (-1, -1)), ((-1, -1), (-1, -1, -1)), ((-1, -1, -1), (1, -1, -1)), ((), ()), ((-1, -1),)):
            self.assertIs(shows_unlike_ones(2, (), value), False)
        self.assertIs(shows_unlike_ones(2, (), ((-1, -1), (1, -1))), True)

    def test_any_value(self):
        for value in (*ODD_VALUES, *near(((-1, -1), (1, -1)))):
            expected = repr(value) in [repr(pair) for pair in all_unlike(2, ())]
            self.assertIs(shows_unlike_ones(2, (), value), expected)
            self.assertIs(shows_unlike_ones(2, ((0,), (1,)), value), value is None)


class Wrong(Case):
    def test_up_to_30_lots(self):
        for many in (0, 1, 29, 30):
            self.same(tells_all(1, ((0,),) * many), True)
            self.same(tells_all(2, ((0,),) * many), False)
            self.same(unlike_ones(1, ((),) * many), None)
            self.same(told_by((-1,), ((),) * many), True)
        for many in (31, 32, 100):
            for lots in (((0,),) * many, ((),) * many, (None,) * many):
                self.fails(BadLots, tells_all, 1, lots, index=None)
                self.fails(BadLots, unlike_ones, 1, lots, index=None)
                self.fails(BadLots, shows_unlike_ones, 1, lots, None, index=None)
                self.fails(BadLots, told_by, (-1,), lots, index=None)

    def test_the_first_bad_one(self):
        for at in range(30):
            lots = ((0,),) * at + (None,) + ((1, 0),) * (29 - at)
            for call in (tells_all, unlike_ones):
                self.fails(BadLots, call, 2, lots, index=at)
            self.fails(BadLots, shows_unlike_ones, 2, lots, None, index=at)
            self.fails(BadLots, told_by, (1, 0), lots, index=at)


if __name__ == "__main__":
    unittest.main()
