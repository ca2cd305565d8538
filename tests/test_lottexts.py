"""Texts of lots (point 30)."""

import itertools
import re
import unittest

from firstthere.errors import BadLots, InvalidText, NotText
from firstthere.lottexts import read_lots, write_lots
from tests.support import ODD_VALUES, Case, all_lots, changed_texts, first_place

NUMBER = "(?<![0-9])[0-5](?![0-9])"
LOT = f"(?: *{NUMBER})+ *| *- *"
WHOLE = re.compile(f" *|(?:{LOT})(?:/(?:{LOT}))*")
BEGUN = re.compile(f" *|(?:{LOT})(?:/(?:{LOT}))*(?:/ *)?")


def has_room(text):
    """Whether the parts between the signs "/" are at most thirty lots, people in each unlike."""
    parts = text.split("/")
    people = [re.findall("[0-9]", part) for part in parts]
    return not "".join(parts[30:]).strip(" ") and all(len(set(row)) == len(row) for row in people)


def is_begun(text):
    return BEGUN.fullmatch(text) is not None and has_room(text)


def named_by(text):
    """The lots that the text names, None if it names none."""
    if not text.strip(" "):
        return ()
    parts = text.split("/")
    if WHOLE.fullmatch(text) is None or not has_room(text) or len(parts) > 30:
        return None
    return tuple(tuple(sorted(map(int, re.findall("[0-9]", part)))) for part in parts)


def place_of(text):
    return first_place(text, is_begun)


class TextCase(Case):
    def reads(self, text):
        self.reads_text(read_lots, text, named_by(text), place_of(text))


def some_lots():
    lots = all_lots(6)
    yield ()
    yield from ((lot,) for lot in lots)
    yield from zip(lots, lots[::-1])
    yield from (tuple(lots[at:at + many]) for many in (3, 5, 29, 30) for at in range(0, 34, 6))
    yield from (((),) * many for many in (2, 7, 30))
    yield (lots[-1],) * 30


class WorkedOut(TextCase):
    def test_write(self):
        self.same(write_lots(()), "")
        self.same(write_lots(((),)), "-")
        self.same(write_lots(((5,),)), "5")
        self.same(write_lots(((0, 2), (), (1,))), "0 2 / - / 1")
        self.same(write_lots(((0, 1, 2, 3, 4, 5), (), ())), "0 1 2 3 4 5 / - / -")

    def test_read(self):
        self.same([read_lots(""), read_lots(" "), read_lots("    ")], [(), (), ()])
        self.same(read_lots("-"), ((),))
        self.same(read_lots("2 0/-"), ((0, 2), ()))
        self.same(read_lots("-/-/3"), ((), (), (3,)))
        self.same(read_lots("  5  3 4 /  -  /0 1/ 1 0"), ((3, 4, 5), (), (0, 1), (0, 1)))
        self.same(read_lots("/".join("-" * 30)), ((),) * 30)
        self.same(read_lots("/".join(["1 0"] * 30)), ((0, 1),) * 30)

    def test_places(self):
        for text, place in (
                ("/", 0), (" /", 1), ("0/", 2), ("0 / ", 4), ("0//1", 2), ("0 / / 1", 4), ("-/", 2), ("-/ ", 3),
                ("--", 1), ("- -", 2), ("-0", 1), ("- 0", 2), ("0-", 1), ("0 -", 2), ("0 1-/2", 3), ("0 0", 2),
                ("0 1 2 1", 6), ("0/1 1", 4), ("0 1 / 1 0 1", 10), ("01", 0), ("0 12", 2), ("0 1 00", 4), ("6", 0),
                ("0 6", 2), ("0/9", 2), ("0 123/", 2), ("12 0", 0), (" 10", 1), ("0 1 / 55", 6), ("0,1", 1), ("a", 0),
                ("0 \t1", 2), ("0\n", 1), ("\n", 0), ("0/\u0661", 2), ("\u0660", 0), ("0\u00b9", 1), ("0>1", 1),
                ("0 1 2 3 4 5 6", 12), ("0 1 2 3 4 5 5", 12), ("0\u00a01", 1), ("0 /- 1", 5), ("-1", 1), ("0/-1", 3)):
            self.fails(InvalidText, read_lots, text, place=place)
            self.assertEqual((named_by(text), place_of(text)), (None, place), text)

    def test_thirty_lots_and_one_more(self):
        for one in ("-", "3", "0 1 2"):
            text = "/".join([one] * 30)
            self.same(read_lots(text), read_lots(one) * 30)
            self.fails(InvalidText, read_lots, text + "/", place=len(text) + 1)
            self.fails(InvalidText, read_lots, text + " / ", place=len(text) + 3)
            for more in ("-", "0", "5", "0 1", "12", "6", "x", "/", "-/-", ">", "0/0", "66 / x"):
                self.fails(InvalidText, read_lots, text + "/" + more, place=len(text) + 1)
                self.fails(InvalidText, read_lots, text + " /  " + more, place=len(text) + 4)
            self.fails(InvalidText, read_lots, text + "/" + text, place=len(text) + 1)
            self.fails(InvalidText, read_lots, text + "x/0", place=len(text))


class AllTexts(TextCase):
    def test_what_is_written_is_read(self):
        for lots in some_lots():
            text = write_lots(lots)
            self.same(named_by(text), lots)
            self.same(read_lots(text), lots)
            self.assertNotIn("  ", text)
            self.assertEqual(text, text.strip())

    def test_any_order_of_people(self):
        for lot in all_lots(6)[1:]:
            for order in list(itertools.permutations(map(str, lot)))[::1 if len(lot) < 5 else 13]:
                self.same(read_lots(" ".join(order)), (lot,))
                self.same(read_lots("-/" + "   ".join(order) + "/" + " ".join(order[::-1])), ((), lot, lot))

    def test_loose_spaces(self):
        for lots in some_lots():
            text = write_lots(lots)
            for sign in "/-012345 ":
                for loose in (f" {sign}", f"{sign} ", f"  {sign}   "):
                    self.same(read_lots(text.replace(sign, loose)), lots)
            self.same(read_lots(text.replace(" / ", "/")), lots)
            self.same(read_lots(f"   {text}  "), lots)

    def test_all_short_texts(self):
        for many in range(7):
            for signs in itertools.product("01/- ", repeat=many):
                self.reads("".join(signs))

    def test_changed_texts(self):
        texts = [write_lots(lots) for lots in list(some_lots())[::11]]
        for text in (*(one for one in texts if len(one) < 40), "2 0/-", "  0  1 /-/  5", "-/-", " "):
            for changed in changed_texts(text, "01256/- >9,\t\n\u0662a"):
                self.reads(changed)

    def test_changed_texts_of_thirty_lots(self):
        for text in ("/".join("-" * 30), "/".join("012345" * 5) + " "):
            for changed in changed_texts(text, "06/- x"):
                self.reads(changed)

    def test_texts_cut_off_or_put_together(self):
        texts = [write_lots(lots) for lots in list(some_lots())[::9]]
        for text in texts:
            for end in range(len(text)):
                self.reads(text[:end])
                self.reads(text[end:])
        for one, other in itertools.product(texts, repeat=2):
            for between in ("", " ", "/", " / "):
                self.reads(one + between + other)


class Wrong(TextCase):
    def test_no_text(self):
        for value in ODD_VALUES + (0, 1, (), b"0", ["0"], ("0",), {"0": 0}, 1.5):
            if not isinstance(value, str):
                self.fails(NotText, read_lots, value)

    def test_no_lots(self):
        for value, index in (
                (None, None), (0, None), ("", None), ([], None), ({}, None), (((),) * 31, None), ((0,), 0), ((6,), 0),
                (((6,),), 0), (((), (0, 6)), 1), (((), (0, 0)), 1), (((1, 0),), 0), (((True,),), 0),
                ((None,) * 31, None), (((0,), [1]), 1), (((),) * 29 + ((-1,),), 29)):
            self.fails(BadLots, write_lots, value, index=index)

    def test_other_characters(self):
        for number in (*range(300), 0x660, 0x966, 0x2003, 0x200B, 0x2028, 0x3000, 0xFF10, 0xFF0F, 0x1D7CE, 0xD800):
            sign = chr(number)
            if sign not in " -0123456789":
                self.fails(InvalidText, read_lots, sign + "0", place=0)
            if sign not in " /0123456789":
                self.fails(InvalidText, read_lots, "0" + sign, place=1)
            if sign not in " /":
                self.fails(InvalidText, read_lots, "-" + sign + "/0", place=1)


if __name__ == "__main__":
    unittest.main()
