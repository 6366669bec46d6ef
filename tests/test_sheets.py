"""Promises 2, 3, 4 and 6: sheets."""

import unittest
from itertools import product

from oracle import all_columns
from sumslips.adding import Written
from sumslips.errors import InvalidColumn, InvalidSheet, NotAlike, SlipError
from sumslips.sheets import Sheet

NO_INTEGERS = (True, False, None, 2.0, 3.5, "2", b"2", [2], (2,), {2: 2}, 2j, object())


class SheetTest(unittest.TestCase):
    def test_properties(self):
        sheet = Sheet(10, 2, [(7, 5), (1, 0), (9, 9)])
        self.assertEqual(sheet.base, 10)
        self.assertEqual(sheet.rows, 2)
        self.assertEqual(sheet.columns, [(7, 5), (1, 0), (9, 9)])
        self.assertIs(type(sheet.columns), list)
        self.assertEqual({type(column) for column in sheet.columns}, {tuple})
        self.assertEqual(len(sheet), 3)
        self.assertEqual([sheet[i] for i in range(3)], [(7, 5), (1, 0), (9, 9)])
        self.assertIs(type(sheet[0]), tuple)

    def test_value_sums_columns_from_the_units_on(self):
        for base, rows, columns, value in (
            (10, 2, [(7, 5), (1, 0)], 22),
            (10, 1, [(1,), (2,), (3,)], 321),
            (10, 4, [(9, 9, 9, 9)], 36),
            (10, 2, [(9, 9), (9, 9)], 198),
            (2, 1, [(0,), (1,), (1,)], 6),
            (2, 3, [(1, 1, 1), (1, 0, 1)], 7),
            (12, 1, [(11,), (11,)], 143),
            (7, 2, [(6, 0), (0, 0), (0, 3)], 6 + 3 * 49),
            (10, 2, [(0, 0), (0, 0)], 0),
        ):
            with self.subTest(columns):
                self.assertEqual(Sheet(base, rows, columns).value, value)
                self.assertIs(type(Sheet(base, rows, columns).value), int)

    def test_value_of_all_small_sheets(self):
        for base, rows, many in ((2, 1, 4), (2, 2, 3), (3, 2, 2), (5, 1, 3)):
            for columns in product(all_columns(base, rows), repeat=many):
                right = sum(sum(column) * base ** i for i, column in enumerate(columns))
                self.assertEqual(Sheet(base, rows, list(columns)).value, right)

    def test_a_sheet_without_columns(self):
        for base in range(2, 13):
            for rows in range(1, 5):
                sheet = Sheet(base, rows, [])
                self.assertEqual((sheet.base, sheet.rows), (base, rows))
                self.assertEqual((sheet.columns, len(sheet), sheet.value), ([], 0, 0))
                self.assertEqual(sheet.cut(0, 0), sheet)
                self.assertEqual(sheet + sheet, sheet)

    def test_a_sheet_of_60_columns(self):
        sheet = Sheet(12, 4, [(11, 11, 11, 11)] * 60)
        self.assertEqual(len(sheet), 60)
        self.assertEqual(sheet.value, 4 * (12 ** 60 - 1))
        self.assertEqual(sheet[59], (11, 11, 11, 11))
        sheet[59] = (1, 0, 0, 0)
        self.assertEqual(sheet.value, 4 * (12 ** 59 - 1) + 12 ** 59)
        self.assertEqual(len(sheet.cut(1, 60)), 59)

    def test_more_than_60_columns_are_no_error(self):
        self.assertEqual(len(Sheet(2, 1, [(1,)] * 61)), 61)
        joined = Sheet(10, 1, [(1,)] * 60) + Sheet(10, 1, [(2,)] * 60)
        self.assertEqual(joined.columns, [(1,)] * 60 + [(2,)] * 60)

    def test_the_limits_themselves_are_allowed(self):
        for base, rows in product((2, 12), (1, 4)):
            sheet = Sheet(base, rows, [(0,) * rows, (base - 1,) * rows])
            self.assertEqual(sheet.value, (base - 1) * rows * base)


class CopiesTest(unittest.TestCase):
    def test_a_list_that_was_passed_is_changed_later(self):
        columns = [(1, 2), (3, 4)]
        one = Sheet(10, 2, columns)
        other = Sheet(10, 2, columns)
        columns[0] = (9, 9)
        columns.append((5, 5))
        self.assertEqual(one.columns, [(1, 2), (3, 4)])
        self.assertEqual(other.columns, [(1, 2), (3, 4)])
        one[1] = (0, 0)
        self.assertEqual(other.columns, [(1, 2), (3, 4)])
        self.assertEqual(columns, [(9, 9), (3, 4), (5, 5)])

    def test_a_list_that_was_returned_is_changed_later(self):
        sheet = Sheet(10, 2, [(1, 2), (3, 4)])
        told = sheet.columns
        other = Sheet(10, 2, told)
        told[0] = (9, 9)
        told.clear()
        self.assertEqual(sheet.columns, [(1, 2), (3, 4)])
        self.assertEqual(other.columns, [(1, 2), (3, 4)])
        self.assertEqual((len(sheet), sheet.value, sheet[0]), (2, 73, (1, 2)))

    def test_returned_columns_do_not_follow_the_sheet(self):
        sheet = Sheet(10, 1, [(1,), (2,)])
        told = sheet.columns
        sheet[0] = (7,)
        self.assertEqual(told, [(1,), (2,)])

    def test_the_same_call_returns_the_same(self):
        sheet = Sheet(10, 2, [(1, 2), (3, 4)])
        self.assertEqual(sheet.columns, sheet.columns)
        self.assertEqual(sheet.value, sheet.value)
        self.assertEqual(sheet.cut(0, 1), sheet.cut(0, 1))
        self.assertEqual(sheet + sheet, sheet + sheet)


class ReplaceTest(unittest.TestCase):
    def test_a_column_is_replaced(self):
        sheet = Sheet(10, 2, [(1, 2), (3, 4), (5, 6)])
        sheet[1] = (0, 9)
        self.assertEqual(sheet.columns, [(1, 2), (0, 9), (5, 6)])
        sheet[0] = (9, 9)
        sheet[2] = (0, 0)
        self.assertEqual(sheet.columns, [(9, 9), (0, 9), (0, 0)])
        self.assertEqual((sheet[0], len(sheet), sheet.value), ((9, 9), 3, 108))

    def test_what_is_no_column_is_refused_and_changes_nothing(self):
        sheet = Sheet(10, 2, [(1, 2), (3, 4)])
        for wrong in (
            (), (1,), (1, 2, 3), [1, 2], "12", None, 12, (1, 10), (10, 1), (1, 1000), (-1, 0), (0, -1),
            (True, 1), (1, False), (1.0, 2), ("1", 2), (None, 1), ((1,), 2), ([1], 2), {1: 2}, {1, 2}, True,
        ):
            for at in (0, 1):
                with self.subTest(wrong=wrong, at=at):
                    with self.assertRaises(InvalidColumn) as caught:
                        sheet[at] = wrong
                    self.assertIs(type(caught.exception), InvalidColumn)
                    self.assertEqual(sheet.columns, [(1, 2), (3, 4)])

    def test_the_base_and_rows_of_this_sheet_count(self):
        sheet = Sheet(2, 3, [(0, 0, 0)])
        sheet[0] = (1, 1, 1)
        self.assertEqual(sheet.columns, [(1, 1, 1)])
        for wrong in ((1, 1), (1, 1, 2), (1, 1, 1, 1)):
            with self.assertRaises(InvalidColumn):
                sheet[0] = wrong
        wide = Sheet(12, 1, [(0,)])
        wide[0] = (11,)
        self.assertEqual(wide.value, 11)
        with self.assertRaises(InvalidColumn):
            wide[0] = (12,)


class CutAndJoinTest(unittest.TestCase):
    def test_cut(self):
        columns = [(1, 2), (3, 4), (5, 6), (7, 8)]
        sheet = Sheet(10, 2, columns)
        for low in range(5):
            for high in range(low, 5):
                part = sheet.cut(low, high)
                self.assertIs(type(part), Sheet)
                self.assertEqual((part.base, part.rows), (10, 2))
                self.assertEqual(part.columns, columns[low:high])
        self.assertEqual(sheet.columns, columns)

    def test_a_cut_shares_nothing(self):
        sheet = Sheet(10, 1, [(1,), (2,), (3,)])
        for low, high in ((0, 3), (1, 3), (0, 2)):
            part = sheet.cut(low, high)
            part[0] = (9,)
            self.assertEqual(sheet.columns, [(1,), (2,), (3,)])
            before = part.columns
            sheet[1] = (8,)
            self.assertEqual(part.columns, before)
            sheet[1] = (2,)

    def test_join_puts_the_other_columns_behind(self):
        one = Sheet(10, 1, [(1,), (2,)])
        other = Sheet(10, 1, [(3,)])
        joined = one + other
        self.assertIs(type(joined), Sheet)
        self.assertEqual((joined.base, joined.rows), (10, 1))
        self.assertEqual(joined.columns, [(1,), (2,), (3,)])
        self.assertEqual((other + one).columns, [(3,), (1,), (2,)])
        self.assertEqual((one + one).columns, [(1,), (2,), (1,), (2,)])
        self.assertEqual(one.columns, [(1,), (2,)])
        self.assertEqual(other.columns, [(3,)])
        self.assertEqual(joined.value, one.value + 100 * other.value)

    def test_a_join_shares_nothing(self):
        empty = Sheet(10, 1, [])
        for one, other in ((Sheet(10, 1, [(1,), (2,)]), empty), (empty, Sheet(10, 1, [(1,), (2,)]))):
            joined = one + other
            joined[0] = (9,)
            self.assertEqual((one + other).columns, [(1,), (2,)])
            again = one + other
            full = one if len(one) else other
            full[1] = (7,)
            self.assertEqual(again.columns, [(1,), (2,)])
            self.assertEqual(joined.columns, [(9,), (2,)])
        self.assertEqual(len(empty), 0)

    def test_cuts_join_to_the_sheet(self):
        sheet = Sheet(3, 2, [(0, 1), (2, 2), (1, 0)])
        for at in range(4):
            self.assertEqual(sheet.cut(0, at) + sheet.cut(at, 3), sheet)

    def test_sheets_that_are_not_alike_are_not_joined(self):
        for one, other in (
            (Sheet(10, 2, [(1, 2)]), Sheet(9, 2, [(1, 2)])),
            (Sheet(10, 2, [(1, 2)]), Sheet(10, 1, [(1,)])),
            (Sheet(10, 2, []), Sheet(11, 2, [])),
            (Sheet(10, 2, []), Sheet(10, 3, [])),
            (Sheet(2, 4, []), Sheet(4, 2, [])),
        ):
            before = one.columns, other.columns
            for left, right in ((one, other), (other, one)):
                with self.assertRaises(NotAlike) as caught:
                    left + right
                self.assertIs(type(caught.exception), NotAlike)
            self.assertEqual((one.columns, other.columns), before)


class OrderTest(unittest.TestCase):
    def test_equal(self):
        sheet = Sheet(10, 2, [(1, 2), (3, 4)])
        same = Sheet(10, 2, [(1, 2), (3, 4)])
        self.assertTrue(sheet == same)
        self.assertFalse(sheet != same)
        self.assertIsNot(sheet == same, NotImplemented)
        for other in (
            Sheet(11, 2, [(1, 2), (3, 4)]),
            Sheet(10, 2, [(1, 2)]),
            Sheet(10, 2, [(1, 2), (3, 4), (0, 0)]),
            Sheet(10, 2, [(3, 4), (1, 2)]),
            Sheet(10, 2, [(2, 1), (3, 4)]),
        ):
            self.assertFalse(sheet == other)
            self.assertTrue(sheet != other)
        self.assertFalse(Sheet(10, 2, []) == Sheet(10, 3, []))
        self.assertFalse(Sheet(10, 2, []) == Sheet(9, 2, []))
        self.assertFalse(Sheet(10, 1, [(3,)]) == Sheet(10, 2, [(1, 2)]))

    def test_equal_to_other_values(self):
        sheet = Sheet(10, 1, [(1,), (2,)])
        for other in (None, 0, 21, True, "10: 21", [(1,), (2,)], (10, 1, [(1,), (2,)]), {}, object(), Sheet,
                      Written(10, [1, 2], 0)):
            self.assertIs(sheet == other, False)
            self.assertIs(sheet != other, True)
            self.assertIs(other == sheet, False)

    def test_equal_follows_a_replaced_column(self):
        one = Sheet(10, 1, [(1,)])
        other = Sheet(10, 1, [(2,)])
        self.assertFalse(one == other)
        other[0] = (1,)
        self.assertTrue(one == other)

    def assert_before(self, one, other):
        self.assertIs(one < other, True)
        self.assertIs(one <= other, True)
        self.assertIs(one > other, False)
        self.assertIs(one >= other, False)
        self.assertIs(other < one, False)
        self.assertIs(other <= one, False)
        self.assertIs(other > one, True)
        self.assertIs(other >= one, True)

    def test_order(self):
        for base, rows, one, other in (
            (10, 1, [], [(0,)]),
            (10, 1, [(9,)], [(0,), (0,)]),
            (10, 1, [(1,), (9,)], [(2,), (0,)]),
            (10, 1, [(1,), (2,)], [(1,), (3,)]),
            (10, 2, [(0, 9)], [(1, 0)]),
            (10, 2, [(1, 0)], [(1, 1)]),
            (12, 2, [(2, 0), (0, 0)], [(10, 0), (0, 0)]),
        ):
            self.assert_before(Sheet(base, rows, one), Sheet(base, rows, other))

    def test_order_of_equal_sheets(self):
        for columns in ([], [(3,)], [(3,), (4,)]):
            one, other = Sheet(10, 1, columns), Sheet(10, 1, columns)
            self.assertIs(one < other, False)
            self.assertIs(one > other, False)
            self.assertIs(one <= other, True)
            self.assertIs(one >= other, True)

    def test_sorted_sheets(self):
        for base, rows in ((2, 2), (3, 1)):
            right = []
            for many in range(4):
                right += [Sheet(base, rows, list(told)) for told in product(all_columns(base, rows), repeat=many)]
            self.assertEqual([s.columns for s in sorted(right[::-1])], [s.columns for s in right])
            for one, other in zip(right, right[1:]):
                self.assert_before(one, other)


class NoSheetTest(unittest.TestCase):
    def refuse(self, base, rows, columns):
        with self.subTest(base=base, rows=rows, columns=columns):
            with self.assertRaises(InvalidSheet) as caught:
                Sheet(base, rows, columns)
            self.assertIs(type(caught.exception), InvalidSheet)
            self.assertIsInstance(caught.exception, SlipError)
            self.assertIsInstance(caught.exception, ValueError)

    def test_base(self):
        for base in (1, 0, -1, -10, 13, 14, 16, 1000, 10 ** 30) + NO_INTEGERS:
            self.refuse(base, 1, [])
            self.refuse(base, 1, [(0,)])

    def test_rows(self):
        for rows in (0, -1, -4, 5, 6, 1000, 10 ** 30) + NO_INTEGERS:
            self.refuse(10, rows, [])
            self.refuse(10, rows, [(0,)])
        self.refuse(10, 0, [()])
        self.refuse(10, 5, [(0,) * 5])
        self.refuse(10, True, [(1,)])

    def test_columns_that_are_no_list(self):
        for columns in (None, 0, (), ((0,),), "", "0", {}, {(0,): 1}, {(0,)}, True, b"", range(0), iter([])):
            self.refuse(10, 1, columns)

    def test_a_column_that_is_none(self):
        for wrong in (
            (1,), (1, 2, 3), (), [1, 2], "12", b"12", None, 12, {1: 1, 2: 2}, (1, 10), (10, 0), (1, 10 ** 30),
            (-1, 0), (0, -1), (True, 0), (0, False), (1.0, 2), (1, 2.0), ("1", "2"), (None, None), ([1], 2), ((1, 2),),
        ):
            self.refuse(10, 2, [wrong])
            self.refuse(10, 2, [wrong, (1, 2)])
            self.refuse(10, 2, [(1, 2), (3, 4), wrong])

    def test_a_figure_from_the_base_on(self):
        for base in range(2, 13):
            self.assertEqual(Sheet(base, 1, [(base - 1,)]).value, base - 1)
            self.refuse(base, 1, [(base,)])
            self.refuse(base, 1, [(base + 1,)])
            self.refuse(base, 2, [(0, 0), (0, base)])

    def test_a_refused_list_is_not_changed(self):
        columns = [(1, 2), [3, 4], (5, 10)]
        self.refuse(10, 2, columns)
        self.assertEqual(columns, [(1, 2), [3, 4], (5, 10)])


if __name__ == "__main__":
    unittest.main()
