"""Promises 2, 4, 5 (g) and 16: the slips that explain a result."""

import random
import unittest
from itertools import product

import oracle
from sumslips.adding import Written, add_right, add_with
from sumslips.errors import InvalidLot, NotAlike
from sumslips.explaining import slips_for, slips_shown
from sumslips.kinds import Kind
from sumslips.sheets import Sheet

FORGET, AGAIN, SWAP, OUT, TWICE = ("forget",), ("again",), ("swap",), ("out",), ("twice",)

ALL_OF_BASE_2 = [FORGET, AGAIN, ("off", 1), ("read", 0, 1), ("copy", 0), SWAP, OUT, TWICE]

# A kind, and the number of columns up to which all its sheets are tried.
SMALL = (
    (Kind(2, 1, ALL_OF_BASE_2, 1), 4),
    (Kind(2, 1, ALL_OF_BASE_2, 2), 4),
    (Kind(2, 1, ALL_OF_BASE_2, 3), 3),
    (Kind(2, 2, [FORGET, ("read", 0, 1), ("read", 1, 1), ("copy", 0), ("copy", 1), SWAP], 2), 2),
    (Kind(2, 2, [AGAIN, OUT, TWICE, SWAP], 2), 3),
    (Kind(3, 1, [("off", 1), ("off", 2), ("read", 0, 1), ("copy", 0), TWICE], 2), 3),
    (Kind(5, 1, [FORGET, AGAIN, SWAP, OUT, TWICE], 2), 2),
    (Kind(10, 1, [("copy", 0), SWAP, TWICE], 2), 2),
)

# Kinds of which some sheets are tried.
LARGE = (
    Kind(10, 2, [FORGET, AGAIN, ("off", 1), ("read", 0, 1), ("copy", 1), SWAP, OUT, TWICE], 2),
    Kind(12, 2, [FORGET, ("off", 11), ("read", 1, 11), ("copy", 0), SWAP, OUT], 2),
    Kind(5, 4, [AGAIN, ("copy", 0), ("copy", 3), ("read", 2, 4), TWICE], 2),
    Kind(10, 3, [FORGET, AGAIN, SWAP], 3),
)


def small_sheets():
    for kind, most in SMALL:
        for many in range(most + 1):
            for columns in product(oracle.all_columns(kind.base, kind.rows), repeat=many):
                yield kind, list(columns)


def larger_sheets(turns, longest):
    told = random.Random(16)
    for _ in range(turns):
        kind = told.choice(LARGE)
        columns = oracle.all_columns(kind.base, kind.rows)
        few = [told.choice(columns) for _ in range(told.randint(1, longest))]
        yield kind, [told.choice(few) for _ in range(told.randint(1, longest))]


class SlipsForTest(unittest.TestCase):
    def check(self, kind, columns):
        """All results that are written with slips of the kind, and the right one."""
        sheet = Sheet(kind.base, kind.rows, columns)
        groups = {}
        for slips in oracle.slips_of(kind, columns):
            figures, last, _ = oracle.add(kind.base, columns, slips)
            groups.setdefault((tuple(figures), last), []).append(slips)
        figures, last, _ = oracle.add(kind.base, columns, [])
        groups.setdefault((tuple(figures), last), [])
        for (figures, last), told in groups.items():
            found = slips_for(kind, sheet, Written(kind.base, list(figures), last))
            self.assertEqual(found, told, (kind.deeds, columns, figures, last))
        # One more in the last carry, and one figure more.
        for (figures, last) in list(groups):
            for wrong in ((figures, last + 1), (figures + (0,), last), (figures[:-1], last)):
                told = groups.get(wrong, [])
                self.assertEqual(slips_for(kind, sheet, Written(kind.base, list(wrong[0]), wrong[1])), told)

    def test_small_sheets(self):
        for kind, columns in small_sheets():
            self.check(kind, columns)

    def test_larger_sheets(self):
        for kind, columns in larger_sheets(40, 5):
            self.check(kind, columns)

    def test_by_hand(self):
        sheet = Sheet(10, 2, [(7, 5), (1, 0)])
        kind = Kind(10, 2, [FORGET, ("off", 9), ("read", 1, 9), ("read", 0, 9), OUT], 2)
        # 12 in place of 22.
        self.assertEqual(slips_for(kind, sheet, Written(10, [2, 1], 0)), [
            [(0, FORGET)],
            [(1, ("off", 9))],
            [(1, ("read", 0, 9))],
        ])
        # 21: a figure is smaller by 1.
        self.assertEqual(slips_for(kind, sheet, Written(10, [1, 2], 0)), [
            [(0, ("off", 9))],
            [(0, ("read", 0, 9))],
            [(0, ("read", 1, 9))],
        ])
        # The second column is left out: the carry stays the last one, or it was forgotten.
        self.assertEqual(slips_for(kind, sheet, Written(10, [2], 0)), [[(0, FORGET), (1, OUT)]])
        self.assertEqual(slips_for(kind, sheet, Written(10, [2], 1)), [[(1, OUT)]])
        self.assertEqual(slips_for(kind, sheet, Written(10, [], 0)), [[(0, OUT), (1, OUT)]])
        self.assertEqual(slips_for(kind, sheet, Written(10, [2, 0], 0)), [
            [(0, FORGET), (1, ("off", 9))],
            [(0, FORGET), (1, ("read", 0, 9))],
        ])

    def test_the_right_result(self):
        # Some slips are harmless, but none at all are no slips of a kind.
        sheet = Sheet(10, 1, [(4,), (4,), (0,)])
        told = slips_for(Kind(10, 1, [("copy", 0), ("off", 5), SWAP], 2), sheet, add_right(sheet))
        self.assertEqual(told, [[(0, SWAP)], [(1, ("copy", 0))]])
        self.assertEqual(slips_for(Kind(10, 1, [("off", 5)], 3), sheet, add_right(sheet)), [])

    def test_the_same_value_with_other_figures_does_not_fit(self):
        # 0044 and 4 with a last carry have the value of 044, too.
        kind = Kind(10, 1, [TWICE, OUT], 1)
        sheet = Sheet(10, 1, [(4,), (4,), (0,)])
        self.assertEqual(slips_for(kind, sheet, Written(10, [4, 4, 0, 0], 0)), [[(2, TWICE)]])
        self.assertEqual(slips_for(kind, sheet, Written(10, [4, 4], 0)), [[(2, OUT)]])
        self.assertEqual(slips_for(kind, sheet, Written(10, [4, 4, 0], 0)), [])
        self.assertEqual(slips_for(kind, sheet, Written(10, [4], 4)), [])

    def test_the_order(self):
        # Slips that go on come behind those that end, and before those with a greater deed or column.
        kind = Kind(10, 1, [TWICE, AGAIN, SWAP, ("off", 1)], 2)
        sheet = Sheet(10, 1, [(0,), (0,), (0,)])
        self.assertEqual(slips_shown(kind, sheet, [], [])[:6], [
            [(0, AGAIN)],
            [(0, AGAIN), (1, AGAIN)],
            [(0, AGAIN), (1, ("off", 1))],
            [(0, AGAIN), (1, SWAP)],
            [(0, AGAIN), (1, TWICE)],
            [(0, AGAIN), (2, AGAIN)],
        ])
        told = slips_for(kind, sheet, Written(10, [0, 1, 0], 0))
        self.assertEqual(told, [[(0, AGAIN)], [(1, ("off", 1))]])

    def test_no_columns(self):
        for kind, _ in SMALL:
            sheet = Sheet(kind.base, kind.rows, [])
            self.assertEqual(slips_for(kind, sheet, add_right(sheet)), [])
            self.assertEqual(slips_for(kind, sheet, Written(kind.base, [], 1)), [])
            self.assertEqual(slips_for(kind, sheet, Written(kind.base, [0], 0)), [])

    def test_what_no_slips_write(self):
        kind = Kind(10, 2, [FORGET, OUT, TWICE], 2)
        sheet = Sheet(10, 2, [(7, 5), (1, 0)])
        for figures, last in (([2, 1], 1), ([2, 1], 10 ** 30), ([2, 1, 0], 0), ([9, 9], 0), ([], 5), ([0] * 70, 0),
                              ([2, 2], 1), ([2, 2, 2], 2)):
            self.assertEqual(slips_for(kind, sheet, Written(10, figures, last)), [])

    def test_not_alike(self):
        kind = Kind(10, 2, [FORGET], 1)
        sheet = Sheet(10, 2, [(7, 5), (1, 0)])
        ten, nine = Written(10, [2, 1], 0), Written(9, [2, 1], 0)
        for other in (Sheet(9, 2, [(7, 5), (1, 0)]), Sheet(11, 2, []), Sheet(10, 1, [(7,)]), Sheet(10, 3, [])):
            for written in (ten, nine, Written(11, [], 0)):
                self.refuse(slips_for, kind, other, written)
        self.refuse(slips_for, kind, sheet, nine)
        self.refuse(slips_for, kind, sheet, Written(11, [2, 1], 0))
        self.refuse(slips_for, kind, Sheet(10, 2, []), Written(2, [], 0))
        self.refuse(slips_for, Kind(9, 2, [FORGET], 1), sheet, ten)
        self.refuse(slips_for, Kind(10, 1, [FORGET], 1), sheet, ten)
        self.assertEqual(slips_for(kind, sheet, ten), [[(0, FORGET)]])

    def refuse(self, function, *arguments):
        with self.assertRaises(NotAlike) as caught:
            function(*arguments)
        self.assertIs(type(caught.exception), NotAlike)


class SlipsShownTest(unittest.TestCase):
    def check(self, kind, columns, lot):
        """All rests that there are, in the order of the lot."""
        sheet = Sheet(kind.base, kind.rows, columns)
        groups = {}
        for slips in oracle.slips_of(kind, columns):
            value = oracle.written_value(kind.base, *oracle.add(kind.base, columns, slips)[:2])
            groups.setdefault(tuple(value % r for r in lot), []).append(slips)
        for rests in product(*[range(r) for r in lot]):
            self.assertEqual(slips_shown(kind, sheet, lot, list(rests)), groups.get(rests, []),
                             (kind.deeds, columns, lot, rests))

    def test_small_sheets(self):
        for at, (kind, columns) in enumerate(small_sheets()):
            self.check(kind, columns, ([], [3], [2, 5], [7], [4, 3])[at % 5])

    def test_larger_sheets(self):
        for at, (kind, columns) in enumerate(larger_sheets(30, 4)):
            self.check(kind, columns, ([9], [11], [4, 5], [2, 3, 7], [])[at % 5])

    def test_by_hand(self):
        sheet = Sheet(10, 2, [(7, 5), (1, 0)])
        kind = Kind(10, 2, [FORGET, OUT, TWICE], 1)
        # 12, 1, 12 (a last carry behind one figure), 232 and 122.
        self.assertEqual([(slips, add_with(sheet, slips).value) for slips in slips_shown(kind, sheet, [], [])], [
            ([(0, FORGET)], 12), ([(0, OUT)], 1), ([(0, TWICE)], 232), ([(1, OUT)], 12), ([(1, TWICE)], 122),
        ])
        self.assertEqual(slips_shown(kind, sheet, [9], [3]), [[(0, FORGET)], [(1, OUT)]])
        self.assertEqual(slips_shown(kind, sheet, [9], [4]), [])
        self.assertEqual(slips_shown(kind, sheet, [11, 9], [1, 7]), [[(0, TWICE)]])
        self.assertEqual(slips_shown(kind, sheet, [9, 11], [1, 7]), [])
        self.assertEqual(slips_shown(kind, sheet, [9, 11], [7, 1]), [[(0, TWICE)]])
        self.assertEqual(slips_shown(kind, sheet, [60, 2, 11], [2, 0, 1]), [[(1, TWICE)]])

    def test_the_rest_is_the_one_of_the_result(self):
        # The value of the sheet is 22, the result is 12: 2 and 1 are not what is left of the difference.
        kind, sheet = Kind(10, 2, [FORGET], 1), Sheet(10, 2, [(7, 5), (1, 0)])
        for r in range(2, 61):
            for rest in range(r):
                told = [[(0, FORGET)]] if 12 % r == rest else []
                self.assertEqual(slips_shown(kind, sheet, [r], [rest]), told)

    def test_no_divisors(self):
        for kind, columns in larger_sheets(20, 4):
            sheet = Sheet(kind.base, kind.rows, columns)
            self.assertEqual(slips_shown(kind, sheet, [], []), oracle.slips_of(kind, columns))

    def test_no_columns(self):
        for kind, _ in SMALL:
            sheet = Sheet(kind.base, kind.rows, [])
            self.assertEqual(slips_shown(kind, sheet, [9], [0]), [])
            self.assertEqual(slips_shown(kind, sheet, [], []), [])

    def test_rests_that_are_no_rests(self):
        kind, sheet = Kind(10, 2, [FORGET], 1), Sheet(10, 2, [(7, 5), (1, 0)])
        for rest in (-6, 12, 9, -1, 21, 10 ** 30, -10 ** 30):
            self.assertEqual(slips_shown(kind, sheet, [9], [rest]), [])
            self.assertEqual(slips_shown(kind, sheet, [9, 11], [rest, 1]), [])
            self.assertEqual(slips_shown(kind, sheet, [11, 9], [1, rest]), [])
        self.assertEqual(slips_shown(kind, sheet, [11, 9], [1, 3]), [[(0, FORGET)]])

    def test_many_divisors(self):
        kind, sheet = Kind(10, 2, [FORGET], 1), Sheet(10, 2, [(7, 5), (1, 0)])
        lot = list(range(2, 61))
        self.assertEqual(slips_shown(kind, sheet, lot, [12 % r for r in lot]), [[(0, FORGET)]])
        self.assertEqual(slips_shown(kind, sheet, [10 ** 40], [12]), [[(0, FORGET)]])

    def test_not_alike(self):
        kind = Kind(10, 2, [FORGET], 1)
        for other in (Sheet(9, 2, [(7, 5)]), Sheet(11, 2, []), Sheet(10, 1, [(7,)]), Sheet(10, 3, [])):
            with self.assertRaises(NotAlike) as caught:
                slips_shown(kind, other, [9], [0])
            self.assertIs(type(caught.exception), NotAlike)

    def test_the_lot_is_checked_first(self):
        kind = Kind(10, 2, [FORGET], 1)
        for sheet in (Sheet(10, 2, []), Sheet(9, 2, []), Sheet(10, 3, [])):
            for lot in ([1], [9, 9], (9,), None, [9.0], "9", [True]):
                with self.assertRaises(InvalidLot) as caught:
                    slips_shown(kind, sheet, lot, [0])
                self.assertIs(type(caught.exception), InvalidLot)


class BothTest(unittest.TestCase):
    def test_twelve_columns(self):
        kind = LARGE[0]
        columns = [(7, 5), (1, 0), (9, 9), (0, 0), (3, 6), (8, 8), (4, 4), (0, 9), (2, 7), (5, 5), (6, 1), (9, 0)]
        sheet = Sheet(10, 2, columns)
        everything = slips_shown(kind, sheet, [], [])
        self.assertEqual(everything, oracle.slips_of(kind, columns))
        for slips in everything[::997]:
            written = add_with(sheet, slips)
            told = oracle.explain(kind, columns, lambda f, last: (f, last) == (written.figures, written.last))
            self.assertIn(slips, told)
            self.assertEqual(slips_for(kind, sheet, written), told)

    def test_somewhat_beyond_the_limits(self):
        kind = Kind(10, 1, [SWAP, OUT], 3)
        sheet = Sheet(10, 1, [(i % 10,) for i in range(14)])
        self.assertEqual(slips_shown(kind, sheet, [], []), oracle.slips_of(kind, sheet.columns))
        kind = Kind(10, 1, [OUT], 1)
        sheet = Sheet(10, 1, [(1,)] * 59 + [(2,)])
        self.assertEqual(slips_for(kind, sheet, Written(10, [1] * 59, 0)), [[(59, OUT)]])

    def test_kinds_of_values(self):
        sheet = Sheet(10, 2, [(7, 5), (1, 0)])
        kind = Kind(10, 2, [("read", 1, 9), FORGET], 2)
        self.assertEqual(repr(slips_shown(kind, sheet, [2], [1])), "[[(0, ('read', 1, 9))], [(0, ('read', 1, 9)), "
                         "(1, ('read', 1, 9))]]")
        self.assertEqual(repr(slips_for(kind, sheet, Written(10, [2, 1], 0))), "[[(0, ('forget',))]]")

    def test_arguments_stay_as_they_were(self):
        sheet, lot, shown = Sheet(10, 2, [(7, 5), (1, 0)]), [9, 11], [3, 1]
        kind, written = Kind(10, 2, [FORGET, SWAP], 2), Written(10, [2, 1], 0)
        first = slips_for(kind, sheet, written), slips_shown(kind, sheet, lot, shown)
        self.assertEqual(first, ([[(0, FORGET)]], [[(0, FORGET)]]))
        self.assertEqual((sheet, lot, shown), (Sheet(10, 2, [(7, 5), (1, 0)]), [9, 11], [3, 1]))
        self.assertEqual((kind, written), (Kind(10, 2, [FORGET, SWAP], 2), Written(10, [2, 1], 0)))
        # What was returned is the asker's own.
        first[0][0].append(7)
        first[1].clear()
        again = slips_for(kind, sheet, written), slips_shown(kind, sheet, lot, shown)
        self.assertEqual(again, ([[(0, FORGET)]], [[(0, FORGET)]]))

    def test_no_list_is_returned_twice(self):
        kind, sheet = Kind(10, 1, [AGAIN, OUT], 3), Sheet(10, 1, [(1,), (2,), (3,)])
        found = slips_shown(kind, sheet, [], [])
        told = [list(slips) for slips in found]
        for at, slips in enumerate(found):
            slips.append(at)
            self.assertEqual(found[at + 1:], told[at + 1:])


if __name__ == "__main__":
    unittest.main()
