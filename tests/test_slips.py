"""Promises 5 (a) and 8: adding with slips, and their effects."""

import unittest
from itertools import product

import oracle
from sumslips.adding import add_with
from sumslips.errors import InvalidSlips, SlipError
from sumslips.sheets import Sheet


class EachDeedTest(unittest.TestCase):
    def check(self, base, columns, slips, figures, last):
        rows = len(columns[0])
        with self.subTest(columns=columns, slips=slips):
            sheet = Sheet(base, rows, columns)
            written = add_with(sheet, slips)
            self.assertEqual(written.base, base)
            self.assertEqual(written.figures, figures)
            self.assertEqual(written.last, last)

    def test_forget(self):
        self.check(10, [(7, 5), (1, 0)], [(0, ("forget",))], [2, 1], 0)
        self.check(10, [(7, 5)], [(0, ("forget",))], [2], 0)
        self.check(10, [(1, 0), (7, 5), (1, 1)], [(1, ("forget",))], [1, 2, 2], 0)
        self.check(10, [(9, 9, 9, 9), (0, 0, 0, 0)], [(0, ("forget",))], [6, 0], 0)
        self.check(10, [(9, 9), (9, 0), (9, 9)], [(1, ("forget",))], [8, 0, 8], 1)

    def test_again(self):
        self.check(10, [(1, 0), (1, 0)], [(0, ("again",))], [1, 2], 0)
        self.check(10, [(7, 5), (1, 0)], [(0, ("again",))], [2, 3], 0)
        self.check(10, [(7, 5), (1, 0)], [(1, ("again",))], [2, 2], 1)
        self.check(10, [(1,), (9,), (9,)], [(0, ("again",))], [1, 0, 0], 1)

    def test_off(self):
        self.check(10, [(0, 0)], [(0, ("off", 9))], [9], 0)
        self.check(10, [(7, 5), (1, 0)], [(0, ("off", 3))], [5, 2], 0)
        self.check(10, [(7, 5), (1, 0)], [(0, ("off", 9))], [1, 2], 0)
        self.check(10, [(7, 5), (1, 0)], [(1, ("off", 8))], [2, 0], 0)
        self.check(2, [(1,), (0,)], [(0, ("off", 1))], [0, 0], 0)
        self.check(12, [(11,)], [(0, ("off", 11))], [10], 0)

    def test_read(self):
        self.check(10, [(7, 5), (1, 0)], [(0, ("read", 0, 2))], [4, 2], 0)
        self.check(10, [(7, 5), (1, 0)], [(0, ("read", 0, 3))], [5, 1], 0)
        self.check(10, [(7, 5), (1, 0)], [(0, ("read", 1, 3))], [5, 2], 0)
        self.check(10, [(7, 5), (1, 0)], [(1, ("read", 1, 9))], [2, 1], 1)
        self.check(10, [(1, 2, 3, 4)], [(0, ("read", 3, 9))], [9], 0)

    def test_copy(self):
        self.check(10, [(7, 5), (1, 0)], [(1, ("copy", 0))], [2, 8], 0)
        self.check(10, [(7, 5), (1, 0)], [(1, ("copy", 1))], [2, 7], 0)
        self.check(10, [(1,), (2,), (3,)], [(2, ("copy", 0))], [1, 2, 2], 0)
        self.check(10, [(1, 5), (2, 5)], [(1, ("copy", 1))], [6, 7], 0)

    def test_a_copy_takes_the_figure_of_the_sheet(self):
        self.check(10, [(1,), (2,)], [(0, ("read", 0, 5)), (1, ("copy", 0))], [6, 1], 0)
        self.check(10, [(1,), (2,), (3,)], [(1, ("copy", 0)), (2, ("copy", 0))], [1, 1, 2], 0)
        self.check(10, [(1,), (2,)], [(0, ("out",)), (1, ("copy", 0))], [1], 0)

    def test_swap(self):
        self.check(10, [(7,), (5,)], [(0, ("swap",))], [5, 7], 0)
        self.check(10, [(7, 5), (1, 0)], [(0, ("swap",))], [2, 2], 0)
        self.check(10, [(7, 6), (1, 0), (4, 4)], [(0, ("swap",))], [2, 3, 8], 0)
        self.check(10, [(7, 6), (1, 0), (4, 4)], [(1, ("swap",))], [3, 8, 2], 0)
        self.check(10, [(1,), (2,), (3,), (4,)], [(0, ("swap",)), (2, ("swap",))], [2, 1, 4, 3], 0)
        self.check(10, [(9, 9), (9, 9), (0, 0)], [(0, ("swap",))], [9, 8, 1], 0)

    def test_out(self):
        self.check(10, [(7, 5), (1, 0)], [(0, ("out",))], [1], 0)
        self.check(10, [(7, 5), (1, 0)], [(1, ("out",))], [2], 1)
        self.check(10, [(7, 5), (3, 3), (1, 0)], [(1, ("out",))], [2, 2], 0)
        self.check(10, [(7, 5), (3, 3)], [(0, ("out",)), (1, ("out",))], [], 0)

    def test_twice(self):
        self.check(10, [(7,)], [(0, ("twice",))], [7, 7], 0)
        self.check(10, [(7, 5), (1, 0)], [(0, ("twice",))], [2, 3, 2], 0)
        self.check(10, [(7, 5), (1, 0)], [(1, ("twice",))], [2, 2, 1], 0)
        self.check(10, [(9, 9)], [(0, ("twice",))], [8, 9], 1)

    def test_several_together(self):
        self.check(10, [(7, 5), (1, 0), (9, 9)], [(0, ("forget",)), (2, ("off", 1))], [2, 1, 9], 1)
        self.check(10, [(5, 4), (5, 4)], [(0, ("again",)), (1, ("forget",))], [9, 0], 0)
        self.check(10, [(7,), (5,), (3,)], [(0, ("twice",)), (1, ("swap",))], [7, 7, 3, 5], 0)
        self.check(10, [(1,), (2,), (3,), (4,), (5,)],
                   [(0, ("out",)), (1, ("twice",)), (2, ("swap",)), (4, ("again",))], [2, 2, 4, 3, 5], 1)
        self.check(12, [(11, 11), (11, 11), (11, 11)],
                   [(0, ("forget",)), (1, ("forget",)), (2, ("forget",))], [10, 10, 10], 0)

    def test_a_slip_may_leave_the_result_right(self):
        sheet = Sheet(10, 2, [(7, 5), (1, 0)])
        self.assertEqual(add_with(sheet, [(0, ("swap",))]) - sheet, 0)
        self.assertEqual(add_with(Sheet(10, 1, [(4,), (4,)]), [(1, ("copy", 0))]).figures, [4, 4])
        self.assertEqual(add_with(Sheet(10, 1, [(4,), (0,)]), [(1, ("out",))]).figures, [4])

    def test_60_columns(self):
        sheet = Sheet(10, 2, [(9, 9)] * 60)
        self.assertEqual(add_with(sheet, [(59, ("twice",))]).figures, [8] + [9] * 60)
        self.assertEqual(add_with(sheet, [(59, ("forget",))]).last, 0)
        self.assertEqual(add_with(sheet, [(58, ("swap",))]).figures, [8] + [9] * 59)
        self.assertEqual(add_with(sheet, [(i, ("out",)) for i in range(60)]).figures, [])
        self.assertEqual(add_with(sheet, [(i, ("off", 1)) for i in range(60)]).figures, [9] + [0] * 59)


class EffectsTest(unittest.TestCase):
    """All slips of small sheets, against a second way to add and the sums that promise 8 gives."""

    def compare(self, base, columns, slips):
        sheet = Sheet(base, len(columns[0]), columns)
        try:
            figures, last, value = oracle.add(base, columns, slips)
        except oracle.Refused as refused:
            with self.assertRaises(InvalidSlips) as caught:
                add_with(sheet, slips)
            self.assertEqual(caught.exception.index, refused.index, (base, columns, slips))
            return
        written = add_with(sheet, slips)
        self.assertEqual((written.figures, written.last), (figures, last), (base, columns, slips))
        self.assertEqual(written.value, value, (base, columns, slips))
        self.assertEqual(written - sheet, value - sheet.value)

    def compare_all(self, base, rows, many, most):
        lists = list(oracle.all_slips(base, rows, many, most))
        for columns in product(oracle.all_columns(base, rows), repeat=many):
            for slips in lists:
                self.compare(base, list(columns), slips)

    def test_base_2_with_one_row(self):
        for many in (1, 2, 3, 4):
            self.compare_all(2, 1, many, 3)

    def test_base_2_with_two_rows(self):
        self.compare_all(2, 2, 2, 2)
        self.compare_all(2, 2, 3, 2)

    def test_base_2_with_four_rows(self):
        self.compare_all(2, 4, 1, 1)

    def test_base_3_with_one_row(self):
        for many in (1, 2, 3):
            self.compare_all(3, 1, many, 2)

    def test_base_3_with_two_rows(self):
        self.compare_all(3, 2, 1, 1)
        self.compare_all(3, 2, 2, 2)

    def test_longer_sheets(self):
        for base, columns in (
            (10, [(7, 5), (1, 0), (9, 9), (0, 4)]),
            (10, [(0, 0), (9, 0), (9, 1), (5, 5)]),
            (12, [(11,), (10,), (0,), (1,), (11,)]),
            (5, [(4, 4, 4), (4, 0, 1), (2, 2, 2)]),
        ):
            for slips in oracle.all_slips(base, len(columns[0]), len(columns), 2):
                self.compare(base, columns, slips)


class RefusedTest(unittest.TestCase):
    def refuse(self, sheet, slips, index):
        with self.subTest(slips=slips):
            columns, told = sheet.columns, list(slips)
            with self.assertRaises(InvalidSlips) as caught:
                add_with(sheet, slips)
            self.assertIs(type(caught.exception), InvalidSlips)
            self.assertIsInstance(caught.exception, SlipError)
            self.assertEqual(caught.exception.index, index)
            self.assertEqual(sheet.columns, columns)
            self.assertEqual(slips, told)

    def refuse_everywhere(self, sheet, item):
        """The item stands for column 2; columns 0 and 1 may have slips before it."""
        again = ("again",)
        self.refuse(sheet, [item], 0)
        self.refuse(sheet, [item, (3, again)], 0)
        self.refuse(sheet, [item, "nothing", None], 0)
        self.refuse(sheet, [(0, again), item], 1)
        self.refuse(sheet, [(0, again), (1, again), item, item, (3, again)], 2)

    def setUp(self):
        self.sheet = Sheet(10, 2, [(7, 5), (1, 0), (2, 3), (9, 9)])

    def test_no_tuple_of_a_column_and_a_deed(self):
        deed = ("again",)
        for item in (None, 2, 2.0, True, "", "2 again", b"2", [], [2, deed], {2: deed}, {2}, (), (2,), (deed,),
                     (2, deed, 0), (2, deed, deed), ((2, deed),), (deed, 2), (2, 2), object()):
            self.refuse_everywhere(self.sheet, item)

    def test_no_column_of_the_sheet(self):
        for column in (4, 5, 60, 10 ** 30, -1, -2, -4, 2.0, "2", None, (2,), [2], True, False, 2j, ("again",)):
            self.refuse_everywhere(self.sheet, (column, ("again",)))

    def test_true_is_not_column_1(self):
        self.refuse(self.sheet, [(True, ("again",))], 0)
        self.refuse(self.sheet, [(False, ("again",))], 0)
        self.refuse(self.sheet, [(0, ("again",)), (True, ("again",))], 1)

    def test_a_sheet_without_columns(self):
        for item in ((0, ("again",)), (-1, ("out",)), (1, ("twice",))):
            self.refuse(Sheet(10, 2, []), [item], 0)

    def test_columns_that_do_not_ascend(self):
        again = ("again",)
        self.refuse(self.sheet, [(0, again), (0, again)], 1)
        self.refuse(self.sheet, [(1, again), (0, again)], 1)
        self.refuse(self.sheet, [(3, again), (2, again)], 1)
        self.refuse(self.sheet, [(0, again), (2, again), (1, again)], 2)
        self.refuse(self.sheet, [(0, again), (2, again), (2, ("off", 1)), (3, again)], 2)
        self.refuse(self.sheet, [(2, ("out",)), (2, ("out",))], 1)
        self.refuse(self.sheet, [(2, ("twice",)), (1, again)], 1)

    def test_the_column_behind_a_swap(self):
        swap = ("swap",)
        for deed in oracle.all_deeds(10, 2):
            self.refuse(self.sheet, [(0, swap), (1, deed)], 1)
            self.refuse(self.sheet, [(0, swap), (0, deed)], 1)
            self.refuse(self.sheet, [(1, swap), (2, deed), (3, ("again",))], 1)
        self.refuse(self.sheet, [(0, swap), (2, swap), (3, ("again",))], 2)
        self.assertEqual(add_with(self.sheet, [(0, swap), (2, ("again",))]).figures, [2, 2, 5, 9])

    def test_no_deed_for_the_base_and_rows(self):
        for deed in (
            None, 0, "again", "forget", b"again", ["again"], {"again": 1}, (), ("",), ("nothing",), ("Again",), (None,),
            (1,), (["again"],), (("again",),), ("again", 0), ("forget", 1), ("swap", 0), ("out", ()), ("twice", 2),
            ("off",), ("off", 0), ("off", 10), ("off", 11), ("off", -1), ("off", True), ("off", 1.0), ("off", "1"),
            ("off", None), ("off", [1]), ("off", 1, 1), (b"off", 1), ["off", 1], ("off", (1,)),
            ("read",), ("read", 0), ("read", 0, 0), ("read", 0, 10), ("read", 0, -1), ("read", 2, 1), ("read", -1, 1),
            ("read", True, 1), ("read", False, 1), ("read", 0, True), ("read", 0.0, 1), ("read", 0, 1.0),
            ("read", 0, 1, 1), ("read", "0", 1), ("read", None, 1), ("read", [0], 1),
            ("copy",), ("copy", 2), ("copy", -1), ("copy", True), ("copy", False), ("copy", 0.0), ("copy", 0, 1),
            ("copy", "0"), ("copy", [0]), ("copy", 10 ** 30),
        ):
            self.refuse_everywhere(self.sheet, (2, deed))

    def test_deeds_at_the_limits_of_each_base_and_rows(self):
        for base, rows in ((2, 1), (2, 4), (3, 2), (10, 3), (12, 1), (12, 4)):
            sheet = Sheet(base, rows, [(1,) * rows, (1,) * rows])
            for deed in oracle.all_deeds(base, rows):
                if deed != ("forget",) and deed[0] != "swap":
                    add_with(sheet, [(1, deed)])
            for deed in (("off", base), ("read", 0, base), ("read", rows, 1), ("read", rows - 1, base), ("copy", rows)):
                self.refuse(sheet, [(1, deed)], 0)

    def test_forget_without_a_carry(self):
        forget = ("forget",)
        self.refuse(self.sheet, [(1, forget)], 0)
        self.refuse(self.sheet, [(0, forget), (1, forget)], 1)
        self.refuse(self.sheet, [(0, ("again",)), (1, ("off", 9)), (2, forget)], 2)
        self.refuse(Sheet(10, 2, [(5, 4)]), [(0, forget)], 0)
        self.assertEqual(add_with(Sheet(10, 2, [(5, 5)]), [(0, forget)]).figures, [0])

    def test_forget_after_other_slips(self):
        forget = ("forget",)
        nines = Sheet(10, 2, [(5, 5), (9, 0)])
        self.assertEqual(add_with(nines, [(1, forget)]).figures, [0, 0])
        self.refuse(nines, [(0, forget), (1, forget)], 1)
        self.refuse(nines, [(0, ("out",)), (1, forget)], 1)
        self.refuse(nines, [(0, ("read", 0, 9)), (1, forget)], 1)
        small = Sheet(10, 2, [(5, 4), (9, 0)])
        self.refuse(small, [(1, forget)], 0)
        self.assertEqual(add_with(small, [(0, ("again",)), (1, forget)]).figures, [9, 0])

    def test_copy_at_column_0(self):
        for row in (0, 1):
            self.refuse(self.sheet, [(0, ("copy", row))], 0)
            self.refuse(self.sheet, [(0, ("copy", row)), (1, ("again",))], 0)
            self.refuse(Sheet(10, 2, [(1, 1)]), [(0, ("copy", row))], 0)

    def test_swap_at_the_last_column(self):
        swap = ("swap",)
        self.refuse(self.sheet, [(3, swap)], 0)
        self.refuse(self.sheet, [(0, ("again",)), (3, swap)], 1)
        self.refuse(self.sheet, [(1, swap), (3, swap)], 1)
        self.refuse(Sheet(10, 2, [(1, 1)]), [(0, swap)], 0)

    def test_the_first_item_counts(self):
        self.refuse(self.sheet, [(1, ("forget",)), "nothing"], 0)
        self.refuse(self.sheet, [(0, ("copy", 0)), (0, ("again",)), None], 0)
        self.refuse(self.sheet, [(0, ("again",)), (1, ("nothing",)), (9, ("again",))], 1)
        self.refuse(self.sheet, [(0, ("again",)), (1, ("out",)), (2, ("forget",)), ()], 2)

    def test_the_list_is_not_changed(self):
        slips = [(0, ("forget",)), (2, ("swap",))]
        first = add_with(self.sheet, slips)
        self.assertEqual(slips, [(0, ("forget",)), (2, ("swap",))])
        self.assertEqual(add_with(self.sheet, slips), first)
        slips.clear()
        self.assertEqual(first.figures, [2, 1, 8, 5])
        self.assertEqual(self.sheet.columns, [(7, 5), (1, 0), (2, 3), (9, 9)])


if __name__ == "__main__":
    unittest.main()
