"""Promises 2 and 7: written results, and adding without slips."""

import unittest
from itertools import product

from oracle import all_columns
from sumslips.adding import Written, add_right, add_with
from sumslips.sheets import Sheet


class WrittenTest(unittest.TestCase):
    def test_properties(self):
        written = Written(10, [2, 1], 3)
        self.assertEqual(written.base, 10)
        self.assertEqual(written.figures, [2, 1])
        self.assertIs(type(written.figures), list)
        self.assertEqual(written.last, 3)
        self.assertEqual(written.value, 312)
        self.assertIs(type(written.value), int)

    def test_value(self):
        for base, figures, last, value in (
            (10, [], 0, 0),
            (10, [], 5, 5),
            (10, [7], 0, 7),
            (10, [0, 0, 1], 0, 100),
            (10, [1, 0, 0], 0, 1),
            (10, [1, 2, 3], 4, 4321),
            (10, [1], 25, 251),
            (2, [1, 0, 1], 3, 29),
            (12, [11, 11], 1, 287),
            (12, [11] * 60, 1, 2 * 12 ** 60 - 1),
            (7, [0] * 70, 2, 2 * 7 ** 70),
        ):
            with self.subTest(figures=figures):
                self.assertEqual(Written(base, figures, last).value, value)

    def test_rest(self):
        for value, written in ((4321, Written(10, [1, 2, 3], 4)), (0, Written(3, [], 0)), (17, Written(2, [1, 0], 4))):
            for r in range(2, 61):
                self.assertEqual(written.rest(r), value % r)
            self.assertEqual(written.rest(10 ** 40), value)
        self.assertEqual(Written(12, [11] * 60, 0).rest(11), 0)
        self.assertEqual(Written(12, [11] * 60, 0).rest(13), (12 ** 60 - 1) % 13)

    def test_written_less_sheet(self):
        sheet = Sheet(10, 2, [(7, 5), (1, 0)])
        for figures, last, gap in (([2, 2], 0, 0), ([2, 1], 0, -10), ([9, 9], 9, 977), ([], 0, -22), ([2, 2], 1, 100)):
            written = Written(10, figures, last)
            self.assertEqual(written - sheet, gap)
            self.assertIs(type(written - sheet), int)
            self.assertEqual((written.figures, written.last), (figures, last))
            self.assertEqual(sheet.columns, [(7, 5), (1, 0)])
        self.assertEqual(Written(10, [], 0) - Sheet(10, 2, []), 0)

    def test_written_less_a_sheet_that_changed(self):
        sheet = Sheet(10, 1, [(3,)])
        written = add_right(sheet)
        sheet[0] = (5,)
        self.assertEqual(written.figures, [3])
        self.assertEqual(written - sheet, -2)

    def test_copies(self):
        figures = [1, 2]
        one = Written(10, figures, 0)
        other = Written(10, figures, 0)
        figures[0] = 9
        figures.append(5)
        self.assertEqual((one.figures, one.value), ([1, 2], 21))
        told = one.figures
        told[0] = 7
        told.append(3)
        self.assertEqual((one.figures, one.value), ([1, 2], 21))
        self.assertEqual((other.figures, other.value), ([1, 2], 21))

    def test_equal(self):
        written = Written(10, [1, 0], 2)
        self.assertIs(written == Written(10, [1, 0], 2), True)
        self.assertIs(written != Written(10, [1, 0], 2), False)
        for other in (Written(11, [1, 0], 2), Written(10, [1, 1], 2), Written(10, [0, 1], 2), Written(10, [1], 2),
                      Written(10, [1, 0, 2], 0), Written(10, [1, 0], 3), Written(10, [1], 20)):
            self.assertIs(written == other, False)
            self.assertIs(written != other, True)
        self.assertIs(Written(10, [], 0) == Written(10, [0], 0), False)
        self.assertIs(Written(10, [], 0) == Written(9, [], 0), False)

    def test_equal_to_other_values(self):
        written = Written(10, [1, 2], 0)
        for other in (None, 21, [1, 2], (10, [1, 2], 0), "12 0", {}, object(), Written,
                      Sheet(10, 1, [(1,), (2,)])):
            self.assertIs(written == other, False)
            self.assertIs(written != other, True)
            self.assertIs(other == written, False)


class AddRightTest(unittest.TestCase):
    def test_known_sums(self):
        for base, rows, columns, figures, last in (
            (10, 2, [], [], 0),
            (10, 1, [(7,)], [7], 0),
            (10, 2, [(7, 5)], [2], 1),
            (10, 2, [(7, 5), (1, 0)], [2, 2], 0),
            (10, 2, [(9, 9), (9, 9)], [8, 9], 1),
            (10, 4, [(9, 9, 9, 9)], [6], 3),
            (10, 4, [(9, 9, 9, 9), (9, 9, 9, 9)], [6, 9], 3),
            (2, 4, [(1, 1, 1, 1)], [0], 2),
            (2, 2, [(1, 1), (0, 1), (0, 0)], [0, 0, 1], 0),
            (12, 2, [(11, 11), (0, 0)], [10, 1], 0),
            (10, 1, [(0,), (0,)], [0, 0], 0),
        ):
            with self.subTest(columns=columns):
                sheet = Sheet(base, rows, columns)
                for written in (add_right(sheet), add_with(sheet, [])):
                    self.assertIs(type(written), Written)
                    self.assertEqual(written.base, base)
                    self.assertEqual(written.figures, figures)
                    self.assertEqual(written.last, last)
                    self.assertEqual(written - sheet, 0)
                self.assertEqual(sheet.columns, columns)

    def test_all_small_sheets(self):
        for base, rows, many in ((2, 1, 4), (2, 2, 3), (2, 4, 2), (3, 2, 2), (10, 1, 2), (4, 3, 1)):
            for columns in product(all_columns(base, rows), repeat=many):
                sheet = Sheet(base, rows, list(columns))
                written = add_right(sheet)
                value = sheet.value
                self.assertEqual(written.figures, [value // base ** p % base for p in range(many)])
                self.assertEqual(written.last, value // base ** many)
                self.assertEqual(written.value, value)
                self.assertEqual(add_with(sheet, []), written)

    def test_60_columns(self):
        for base, rows, column in ((12, 4, (11, 11, 11, 11)), (2, 1, (1,)), (10, 3, (9, 0, 5))):
            sheet = Sheet(base, rows, [column] * 60)
            written = add_right(sheet)
            self.assertEqual(len(written.figures), 60)
            self.assertEqual(written.figures, [sheet.value // base ** p % base for p in range(60)])
            self.assertEqual(written.last, sheet.value // base ** 60)
            self.assertEqual(add_with(sheet, []), written)

    def test_the_same_call_returns_the_same(self):
        sheet = Sheet(10, 2, [(7, 5), (1, 0)])
        first = add_right(sheet)
        first.figures.append(4)
        self.assertEqual(add_right(sheet), first)
        self.assertEqual(add_right(sheet).figures, [2, 2])


if __name__ == "__main__":
    unittest.main()
