"""Texts of deputies (point 24)."""

import itertools
import re
import unittest

from firstthere.errors import BadDeputies, InvalidText, NotText
from firstthere.texts import read_deputies, write_deputies
from tests.support import LARGE, ODD_VALUES, Case, all_deputies, changed_texts, few_deputies, first_place

NUMBER = "(?<![0-9])[0-5](?![0-9])"
PAIR = f"({NUMBER}) *> *({NUMBER}|-)"
PAIRS = re.compile(f"(?: *{PAIR})* *(?:({NUMBER}) *>? *)?")


def pairs_of(text):
    """The pairs that the text begins with and the person alone behind them, None if it is no beginning of a text."""
    found = PAIRS.fullmatch(text)
    if not found:
        return None
    pairs = re.findall(PAIR, text)
    ahead = [person for person, _ in pairs] + [alone for alone in [found.group(3)] if alone]
    if len(set(ahead)) < len(ahead) or any(person == deputy for person, deputy in pairs):
        return None
    return pairs, found.group(3)


def named_by(text):
    """The deputies that the text names, None if it names none."""
    pairs, alone = pairs_of(text) or ([], None)
    named = {int(person): int(deputy.replace("-", "-1")) for person, deputy in pairs}
    people = range(max((*named, *named.values()), default=0) + 1)
    if alone or set(named) != set(people):
        return None
    return tuple(named[person] for person in people)


def is_begun(text):
    return pairs_of(text) is not None


def place_of(text):
    return first_place(text, is_begun)


class TextCase(Case):
    def reads(self, text):
        self.reads_text(read_deputies, text, named_by(text), place_of(text))


class WorkedOut(TextCase):
    def test_write(self):
        self.same(write_deputies((-1,)), "0>-")
        self.same(write_deputies((1, 0)), "0>1 1>0")
        self.same(write_deputies((1, -1, 0)), "0>1 1>- 2>0")
        self.same(write_deputies((5, 4, -1, 2, 0, 3)), "0>5 1>4 2>- 3>2 4>0 5>3")

    def test_read(self):
        self.same(read_deputies("0>-"), (-1,))
        self.same(read_deputies("1>0 0>1"), (1, 0))
        self.same(read_deputies("  0  >  1  1  >  -  "), (1, -1))
        self.same(read_deputies("1>-0>-"), (-1, -1))
        self.same(read_deputies("1>-0>1"), (1, -1))
        self.same(read_deputies("5>3 3>2 4>0 2>- 0>5 1>4"), (5, 4, -1, 2, 0, 3))

    def test_places(self):
        for text, place in (
                ("0>1 1>1", 6), ("", 0), (" ", 1), ("     ", 5), ("0", 1), ("0>", 2), ("0 > ", 4), ("0>1", 3),
                ("1>-", 3), ("0>1 1", 5), ("0>1 1>", 6), ("0>0", 2), ("0 >  0 1>0", 5), ("0>1 0>1", 4), ("0>1 0", 4),
                ("0>1 0 ", 4), ("0>11>0", 2), ("0>1 01>0", 4), ("0>10", 2), ("0>123 1", 2), ("12>0", 0),
                ("  00>1", 2), ("6>0", 0), ("0>6", 2), ("0>9 1>-", 2), ("0>- 6>-", 4), (">", 0), ("-", 0),
                ("0-1", 1), ("0 1", 2), ("0 12", 2),
                ("0>>1", 2), ("0>--", 3), ("0>1>0", 3), ("0>1-", 3), ("0>1,1>0", 3), ("0>1\t1>0", 3), ("0>1\n1>0", 3),
                ("\n0>-", 0), ("0>-\n", 3), ("0 >\u00a0-", 3), ("0>\u0661", 2), ("\u0660>-", 0), ("0>\u00b9 1>-", 2),
                ("0>1 1>- 2>0x", 11), ("a", 0), ("0>-1", 4), ("0>- 2>-", 7), ("0>5", 3), ("0>- 2>1 ", 8), ("0>-1>", 5),
                ("0>+1 1>-", 2), ("0>-1 1>-", 5), ("0->1", 1), ("0>1 1>_", 6), ("1.0>-", 1), ("0>1 1>- 1>-", 8)):
            self.fails(InvalidText, read_deputies, text, place=place)
            self.assertEqual((named_by(text), place_of(text)), (None, place), text)


class AllTexts(TextCase):
    def test_what_is_written_is_read(self):
        for deputies in (*(one for size in (1, 2, 3, 4) for one in all_deputies(size)), *LARGE):
            text = write_deputies(deputies)
            self.same(named_by(text), deputies)
            self.same(read_deputies(text), deputies)
            self.assertNotIn("  ", text)
            self.assertEqual(text, text.strip())

    def test_any_order_of_people(self):
        for deputies in (*few_deputies()[::5], *LARGE[::5]):
            parts = write_deputies(deputies).split(" ")
            for order in list(itertools.permutations(parts))[::1 if len(parts) < 5 else 37]:
                for between in (" ", "   "):
                    self.same(read_deputies(between.join(order)), deputies)

    def test_loose_spaces(self):
        for deputies in few_deputies()[::3]:
            text = write_deputies(deputies)
            for sign in ">-01 ":
                for loose in (f" {sign}", f"{sign} ", f"  {sign}   "):
                    self.same(read_deputies(text.replace(sign, loose)), deputies)
            self.same(read_deputies(f"   {text}  "), deputies)
            self.same(read_deputies(text.replace("- ", "-")), deputies)

    def test_all_short_texts(self):
        for many in range(7):
            for signs in itertools.product("0>-1 ", repeat=many):
                self.reads("".join(signs))

    def test_changed_texts(self):
        texts = [write_deputies(deputies) for deputies in ((-1,), (1, 0), (-1, -1), (1, -1, 0), (2, 0, 1), *LARGE[-2:])]
        for text in (*texts, "2>0 0 > 1 1>-", "  1>-0>-  ", " 1  >  0   0>- "):
            for changed in changed_texts(text, "0125679>-> /,\t\n\u0662a"):
                self.reads(changed)

    def test_texts_cut_off_or_put_together(self):
        texts = [write_deputies(deputies) for deputies in few_deputies()[::6]]
        for text in texts:
            for end in range(len(text)):
                self.reads(text[:end])
                self.reads(text[end:])
        for one, other in itertools.product(texts[::2], texts[::3]):
            self.reads(one + other)
            self.reads(one + " " + other)

    def test_all_kinds_of_places_come(self):
        for number in range(4000):
            # All rows of these signs with a 0 ahead, in the order of numbers written with eight digits.
            self.reads("0" + "".join("> -01256"[number // 8 ** at % 8] for at in range(4)))


class Wrong(TextCase):
    def test_no_text(self):
        for value in ODD_VALUES + (0, 1, (), b"0>-", ["0>-"], ("0>-",), {"0>-": 0}, 1.5):
            if not isinstance(value, str):
                self.fails(NotText, read_deputies, value)

    def test_no_deputies(self):
        for value in ODD_VALUES + ((0,), (), 0, [1, 0], (True, 0), (-1,) * 7, "0>-"):
            self.fails(BadDeputies, write_deputies, value)

    def test_other_characters(self):
        for number in (*range(300), 0x660, 0x966, 0x2003, 0x200B, 0x2028, 0x3000, 0xFF10, 0xFF1E, 0x1D7CE, 0xD800):
            sign = chr(number)
            if sign not in " 0123456789":
                self.fails(InvalidText, read_deputies, sign + "0>-", place=0)
            if sign not in " >0123456789":
                self.fails(InvalidText, read_deputies, "0" + sign + ">-", place=1)
            if sign not in " ":
                self.fails(InvalidText, read_deputies, "0>-" + sign, place=4 if sign in "12345" else 3)


if __name__ == "__main__":
    unittest.main()
