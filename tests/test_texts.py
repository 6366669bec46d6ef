"""Promises 2, 4 and 18: the texts of sheets and of slips."""

import random
import unittest
from itertools import product

import oracle
from sumslips.errors import InvalidText, SlipError
from sumslips.finding import missed
from sumslips.kinds import Kind
from sumslips.sheets import Sheet
from sumslips.texts import read_sheet, read_slips, show_sheet, show_slips

FORGET, AGAIN, SWAP, OUT, TWICE = ("forget",), ("again",), ("swap",), ("out",), ("twice",)

# Sheets as base, rows and columns, with their texts.
SHEETS = (
    (10, 2, [(7, 5), (1, 0)], "10: 17 05"),
    (10, 1, [(7,), (1,)], "10: 17"),
    (10, 1, [(0,)], "10: 0"),
    (10, 1, [(3,), (2,), (1,), (0,), (0,)], "10: 00123"),
    (10, 3, [(1, 2, 3), (4, 5, 6)], "10: 41 52 63"),
    (10, 4, [(1, 2, 3, 4), (5, 6, 7, 8), (9, 0, 0, 0)], "10: 951 062 073 084"),
    (2, 1, [], "2: -"),
    (2, 2, [], "2: - -"),
    (11, 3, [], "11: - - -"),
    (12, 4, [], "12: - - - -"),
    (2, 1, [(1,), (0,), (1,), (1,)], "2: 1101"),
    (2, 4, [(1, 0, 1, 0)], "2: 1 0 1 0"),
    (9, 2, [(8, 0)], "9: 8 0"),
    (11, 1, [(10,), (9,)], "11: 9a"),
    (12, 1, [(11,), (10,), (0,)], "12: 0ab"),
    (12, 2, [(11, 0), (10, 9)], "12: ab 90"),
    (12, 4, [(11, 10, 1, 0)], "12: b a 1 0"),
)

# Lists of tuples (column, deed) with their texts.
SLIPS = (
    ([], "-"),
    ([(0, FORGET), (2, ("read", 1, 9))], "0 forget, 2 read 1 9"),
    ([(0, FORGET)], "0 forget"),
    ([(1, AGAIN)], "1 again"),
    ([(2, ("off", 1))], "2 off 1"),
    ([(3, ("off", 11))], "3 off 11"),
    ([(10, ("read", 0, 1))], "10 read 0 1"),
    ([(100, ("read", 3, 11))], "100 read 3 11"),
    ([(59, ("copy", 0)), (60, ("copy", 3))], "59 copy 0, 60 copy 3"),
    ([(4, SWAP)], "4 swap"),
    # No adding has these two.
    ([(0, ("copy", 1)), (4, SWAP), (5, OUT)], "0 copy 1, 4 swap, 5 out"),
    ([(6, OUT)], "6 out"),
    ([(7, TWICE)], "7 twice"),
    ([(9, AGAIN), (10, AGAIN), (11, AGAIN), (200, AGAIN)], "9 again, 10 again, 11 again, 200 again"),
    ([(10 ** 20, OUT)], "100000000000000000000 out"),
)

NO_SHEETS = (
    "", " ", ":", "-", "10", "10:", "10: ", "10 17", "10 : 17", "10:17", "10:17 05", " 10: 17", "10: 17 ",
    "10:  17", "10: 17  05", "10: 17, 05", "10: 17\n", "\n10: 17", "10:\t17", "10:: 17", "10: 17:", ": 17", "x: 17",
    "010: 17", "+10: 17", "-10: 17", "1 0: 17", "10.0: 17", "1e1: 17", "1_0: 17", "0: 0", "1: 0", "01: 0", "13: 0",
    "100: 0", "a: 1", "b: 1", "00: 0", "-: -", "-2: 0", "10: 1 22", "10: 11 2", "10: 1 -", "10: - 1", "10: -- --",
    "10: -1", "10: 1-", "10: -  -", "10: - ", "10: -:", "10: 1 2 3 4 5", "10: - - - - -", "2: 2", "2: 12", "3: 3",
    "9: 9", "10: a", "10: 1a", "11: b", "12: c", "12: A", "12: B", "12: aB", "10: 1.0", "10: +1", "10: 1_1",
    "10: 1 +", "10: x", "10: 1 x", "10: 0x1", "ten: 1", "10; 1", "10: 1 2 ", "10: 1\t2", "10: 17 | 05",
    "10: \u0661", "10: 1\u00a02", "\u0661\u0660: 1", "10: \u00b2", "10\u003a\u2007 1", "10: 17 05\x00",
    "10: 17 05 -", "12: 1 2 3 4 ", "0 forget", "99999999999999999999999999: 1", "10: 17 5", "10: 017 05",
)

NO_SLIPS = (
    "", " ", "--", "- ", " -", "-, 0 forget", "0 forget, -", ",", ", ", "0", "0 ", "forget", " forget", "0forget",
    "0  forget", " 0 forget", "0 forget ", "0 forget,", "0 forget, ", ", 0 forget", "0 forget,1 again",
    "0 forget,  1 again", "0 forget , 1 again", "0 forget; 1 again", "0 forget 1 again", "0 forget\n", "0\tforget",
    "0 forget,\n1 again", "00 forget", "01 forget", "+1 forget", "-1 forget", "1.0 forget", "x forget", "a forget",
    "1_0 forget", "1 Forget", "1 FORGET", "1 forgets", "1 forge", "1 forget 1", "1 again 0", "1 swap 0", "1 out 1",
    "1 twice 2", "1 off", "1 off 0", "1 off 12", "1 off 00", "1 off 01", "1 off a", "1 off -1", "1 off +1",
    "1 off 1 1", "1 off  1", "1 off 1.0", "1 off 100", "1 read", "1 read 1", "1 read 1 0", "1 read 1 12",
    "1 read 4 1", "1 read -1 1", "1 read 01 1", "1 read 1 01", "1 read 1 1 1", "1 read  1 1", "1 read 1  1",
    "1 read a 1", "1 copy", "1 copy 4", "1 copy 01", "1 copy 00", "1 copy -1", "1 copy 1 1", "1 nothing", "1 none",
    "1 -", "1 None", "1 off 1, 1 off 1", "1 off 1, 0 off 1", "0 off 1, 2 off 1, 1 off 1", "10 out, 9 out",
    "2 out, 2 twice", "0 out, 1 out, 2 out, 2 out", "(0, ('forget',))", "[]", "0 off\u00a01", "\u0660 forget",
    "0 off \u0661", "\u00b2 out", "0 out, 01 out", "0 out\x00", "10: 17 05", "0 , 1 out", "0 out, 1",
)

NO_STRINGS = (None, True, False, 0, 10, 1.5, b"10: 17 05", b"-", b"", [], ["10: 17 05"], ["-"], (), ("-",),
              ("10:", "17"), {}, {"-"}, {"-": 1}, object(), str, Sheet(10, 1, []), Sheet(10, 2, [(7, 5)]),
              [(0, FORGET)], InvalidText("-"))


class TextCase(unittest.TestCase):
    def refuse(self, read, value):
        with self.subTest(value=value):
            with self.assertRaises(InvalidText) as caught:
                read(value)
            self.assertIs(type(caught.exception), InvalidText)
            self.assertIsInstance(caught.exception, SlipError)
            self.assertIsInstance(caught.exception, ValueError)


class SheetTest(TextCase):
    def test_by_hand(self):
        for base, rows, columns, text in SHEETS:
            sheet = Sheet(base, rows, columns)
            with self.subTest(text=text):
                self.assertIs(type(show_sheet(sheet)), str)
                self.assertEqual(show_sheet(sheet), text)
                read = read_sheet(text)
                self.assertIs(type(read), Sheet)
                self.assertEqual(read, sheet)
                self.assertEqual(repr(read.columns), repr(columns))

    def test_all_bases_and_rows(self):
        told = random.Random(18)
        for base, rows, many in product(range(2, 13), range(1, 5), (0, 1, 2, 3, 12, 60, 61)):
            for _ in range(3):
                columns = [tuple(told.randrange(base) for _ in range(rows)) for _ in range(many)]
                words = []
                for row in range(rows):
                    words.append("".join("0123456789ab"[column[row]] for column in reversed(columns)) or "-")
                text = f"{base}: {' '.join(words)}"
                self.assertEqual(show_sheet(Sheet(base, rows, columns)), text)
                self.assertEqual(read_sheet(text), Sheet(base, rows, columns))

    def test_other_strings(self):
        for text in NO_SHEETS:
            self.refuse(read_sheet, text)

    def test_no_strings(self):
        for value in NO_STRINGS:
            self.refuse(read_sheet, value)

    def test_a_figure_from_the_base_on(self):
        for base in range(2, 13):
            for figure in range(12):
                text = f"{base}: 0{'0123456789ab'[figure]} 10"
                if figure < base:
                    self.assertEqual(read_sheet(text), Sheet(base, 2, [(figure, 0), (0, 1)]))
                else:
                    self.refuse(read_sheet, text)

    def near(self, text):
        """All strings with one sign left out, put in or replaced."""
        for at in range(len(text) + 1):
            for sign in " :-0129abc,A":
                yield text[:at] + sign + text[at:]
                yield text[:at] + sign + text[at + 1:]
            yield text[:at] + text[at + 1:]

    def test_what_is_read_is_shown_so(self):
        # A string is a text, or it is refused: no two strings are read as one sheet.
        for *_, text in SHEETS:
            for other in self.near(text):
                try:
                    sheet = read_sheet(other)
                except InvalidText:
                    continue
                self.assertEqual(show_sheet(sheet), other)

    def test_long_texts(self):
        for many in (60, 1996, 1997, 2500):
            text = "12: " + "ab" * (many // 2)
            sheet = Sheet(12, 1, [(11,), (10,)] * (many // 2))
            self.assertEqual((read_sheet(text), show_sheet(sheet)), (sheet, text))
        for text in ("1" * 2000, "1" * 5000 + ": 1", "10: " + "1" * 2000 + " ", " " * 2000, "10:" + " 1" * 999):
            self.refuse(read_sheet, text)


class SlipsTest(TextCase):
    def test_by_hand(self):
        for slips, text in SLIPS:
            with self.subTest(text=text):
                self.assertIs(type(show_slips(slips)), str)
                self.assertEqual(show_slips(slips), text)
                self.assertEqual(repr(read_slips(text)), repr(slips))

    def test_all_deeds(self):
        for deed in oracle.all_deeds(12, 4):
            text = " ".join(str(item) for item in deed)
            for column in (0, 1, 9, 10, 11, 99, 100, 12345678901234567890):
                self.assertEqual(show_slips([(column, deed)]), f"{column} {text}")
                self.assertEqual(repr(read_slips(f"{column} {text}")), repr([(column, deed)]))
                slips = [(column, deed), (column + 1, deed), (column + 7, OUT)]
                text_of_three = f"{column} {text}, {column + 1} {text}, {column + 7} out"
                self.assertEqual(show_slips(slips), text_of_three)
                self.assertEqual(repr(read_slips(text_of_three)), repr(slips))

    def test_other_strings(self):
        for text in NO_SLIPS:
            self.refuse(read_slips, text)

    def test_no_strings(self):
        for value in NO_STRINGS:
            self.refuse(read_slips, value)

    def test_every_row_and_figure(self):
        for j, d in product(range(-1, 7), range(-1, 15)):
            if 0 <= j <= 3 and 1 <= d <= 11:
                self.assertEqual(read_slips(f"0 read {j} {d}"), [(0, ("read", j, d))])
            else:
                self.refuse(read_slips, f"0 read {j} {d}")
            if 1 <= d <= 11:
                self.assertEqual(read_slips(f"0 off {d}"), [(0, ("off", d))])
            else:
                self.refuse(read_slips, f"0 off {d}")
            if 0 <= j <= 3:
                self.assertEqual(read_slips(f"0 copy {j}"), [(0, ("copy", j))])
            else:
                self.refuse(read_slips, f"0 copy {j}")

    def test_ascending_columns(self):
        for columns in product(range(4), repeat=3):
            text = ", ".join(f"{column} out" for column in columns)
            if columns[0] < columns[1] < columns[2]:
                self.assertEqual(read_slips(text), [(column, OUT) for column in columns])
            else:
                self.refuse(read_slips, text)

    def near(self, text):
        for at in range(len(text) + 1):
            for sign in " ,-0129afw":
                yield text[:at] + sign + text[at:]
                yield text[:at] + sign + text[at + 1:]
            yield text[:at] + text[at + 1:]

    def test_what_is_read_is_shown_so(self):
        for _, text in SLIPS:
            for other in self.near(text):
                try:
                    slips = read_slips(other)
                except InvalidText:
                    continue
                self.assertEqual(show_slips(slips), other)

    def test_long_texts(self):
        slips = [(i, ("read", i % 4, i % 11 + 1)) for i in range(160)]
        text = ", ".join(f"{i} read {i % 4} {i % 11 + 1}" for i in range(160))
        self.assertGreater(len(text), 1990)
        self.assertEqual((show_slips(slips), read_slips(text)), (text, slips))
        for many in (9, 10, 18, 19, 1990):
            for column in (10 ** many, 10 ** many - 1, 10 ** many + 7):
                self.assertEqual(show_slips([(column, OUT)]), f"{column} out")
                self.assertEqual(read_slips(f"{column} out"), [(column, OUT)])
                self.refuse(read_slips, f"0{column} out")
        # Python itself reads and shows no integer that is so long.
        text = "1" + "0" * 4999 + "5 twice"
        self.assertEqual(read_slips(text), [(10 ** 5000 + 5, TWICE)])
        self.assertEqual(show_slips([(10 ** 5000 + 5, TWICE)]), text)
        self.refuse(read_slips, "9" * 2000)


class GeneralTest(TextCase):
    def test_what_was_found(self):
        for kind, r in ((Kind(10, 2, [("off", 9)], 1), 9), (Kind(10, 1, [SWAP], 1), 9), (Kind(12, 1, [OUT], 2), 7)):
            sheet, slips = missed(kind, [r])
            self.assertEqual(read_sheet(show_sheet(sheet)), sheet)
            self.assertEqual(read_slips(show_slips(slips)), slips)

    def test_arguments_stay_as_they_were(self):
        sheet, slips = Sheet(10, 2, [(7, 5), (1, 0)]), [(0, FORGET), (2, ("read", 1, 9))]
        show_sheet(sheet)
        show_slips(slips)
        self.assertEqual((sheet, slips), (Sheet(10, 2, [(7, 5), (1, 0)]), [(0, FORGET), (2, ("read", 1, 9))]))

    def test_what_is_returned_may_be_changed(self):
        sheet, slips = read_sheet("10: 17 05"), read_slips("0 forget, 2 read 1 9")
        sheet[0] = (0, 0)
        slips.clear()
        read_slips("-").append(7)
        self.assertEqual(show_sheet(sheet), "10: 10 00")
        self.assertEqual(read_sheet("10: 17 05").columns, [(7, 5), (1, 0)])
        self.assertEqual(read_slips("0 forget, 2 read 1 9"), [(0, FORGET), (2, ("read", 1, 9))])
        self.assertEqual(read_slips("-"), [])


if __name__ == "__main__":
    unittest.main()
