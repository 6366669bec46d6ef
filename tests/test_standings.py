"""Promises 2, 5 (b), 11 and 12: standings, and what leads on from them."""

import random
import unittest
from itertools import product

import oracle
from sumslips.errors import InvalidSlips, NotAlike, NotPossible, SlipError
from sumslips.kinds import Kind
from sumslips.sheets import Sheet
from sumslips.standings import beginning, behind, standing_of

FORGET, AGAIN, SWAP, OUT, TWICE = ("forget",), ("again",), ("swap",), ("out",), ("twice",)

KINDS = (
    Kind(2, 1, [FORGET, AGAIN, ("off", 1), ("read", 0, 1), ("copy", 0), SWAP, OUT, TWICE], 3),
    Kind(2, 4, [("copy", 3), ("copy", 1), ("read", 2, 1), SWAP, OUT], 2),
    Kind(3, 2, [FORGET, ("off", 2), ("read", 1, 1), ("copy", 1), SWAP, TWICE], 3),
    Kind(5, 3, [AGAIN, ("copy", 0), ("copy", 2), SWAP, OUT, TWICE], 3),
    Kind(10, 1, [("copy", 0), SWAP, TWICE], 2),
    Kind(10, 2, [("off", 9)], 1),
    Kind(10, 3, [FORGET, ("read", 2, 9), SWAP, OUT, TWICE], 3),
    Kind(12, 2, [OUT], 3),
    Kind(12, 1, [TWICE, SWAP], 3),
)

LOTS = ([], [9], [11, 9], [2, 3, 60, 7], [13, 1001, 4, 6, 9, 10 ** 25])


class BeginningTest(unittest.TestCase):
    def test_nothing_is_done(self):
        for kind in KINDS:
            for lot in LOTS:
                told = (kind.most, None, None, 0, 0, 0, tuple((0, 1, 1) for _ in lot))
                self.assertEqual(beginning(kind, lot), told)
                self.assertEqual(standing_of(kind, lot, Sheet(kind.base, kind.rows, []), []), told)

    def test_kinds_of_values(self):
        told = beginning(Kind(10, 1, [SWAP], 2), [9, 11])
        self.assertEqual(repr(told), "(2, None, None, 0, 0, 0, ((0, 1, 1), (0, 1, 1)))")


class PartsTest(unittest.TestCase):
    """Each part of the tuple, in standings that were worked out by hand."""

    def check(self, kind, lot, columns, slips, told):
        sheet = Sheet(kind.base, kind.rows, columns)
        self.assertEqual(standing_of(kind, lot, sheet, slips), told)
        self.assertEqual(repr(standing_of(kind, lot, sheet, slips)), repr(told))

    def test_the_example_of_the_document(self):
        kind = Kind(10, 1, [("copy", 0), SWAP, TWICE], 2)
        first = behind(kind, [9], beginning(kind, [9]), (7,), TWICE)
        self.assertEqual(first, (1, None, (7,), 0, 1, 7, ((7, 1, 1),)))
        self.assertEqual(behind(kind, [9], first, (5,), SWAP), (0, 5, (5,), 0, 0, None, ((7, 1, 1),)))
        self.check(kind, [9], [(7,)], [(0, TWICE)], first)
        self.check(kind, [9], [(7,), (5,)], [(0, TWICE), (1, SWAP)], (0, 5, (5,), 0, 0, None, ((7, 1, 1),)))

    def test_left(self):
        for most in (1, 2, 3):
            kind = Kind(10, 1, [AGAIN], most)
            columns = [(9,)] * 3
            for many in range(most + 1):
                sheet = Sheet(10, 1, columns)
                self.assertEqual(standing_of(kind, [], sheet, [(i, AGAIN) for i in range(many)])[0], most - many)

    def test_waiting(self):
        kind = Kind(10, 2, [SWAP], 1)
        for column, figure, carry in (((0, 0), 0, 0), ((4, 5), 9, 0), ((9, 9), 8, 1), ((5, 5), 0, 1)):
            led = behind(kind, [], beginning(kind, []), column, SWAP)
            self.assertEqual(led, (0, figure, (), carry, -1, 0, ()))
            self.check(kind, [], [column], [(0, SWAP)], led)
        # 98 is written in place of 89.
        self.check(kind, [7], [(5, 4), (4, 4)], [(0, SWAP)], (0, None, (), 0, 0, None, ((2, 2, 2),)))
        self.check(kind, [7], [(4, 4), (4, 4)], [(0, SWAP)], (0, None, (), 0, 0, 0, ((0, 2, 2),)))

    def test_before(self):
        columns = [(1, 0, 2), (3, 4, 1)]
        self.check(Kind(5, 3, [SWAP], 1), [], columns, [], (1, None, (), 1, 0, 0, ()))
        self.check(Kind(5, 3, [("copy", 1)], 1), [], columns, [], (1, None, (4,), 1, 0, 0, ()))
        self.check(Kind(5, 3, [("copy", 2), ("copy", 0)], 1), [], columns, [], (1, None, (3, 1), 1, 0, 0, ()))
        self.check(Kind(5, 3, [("copy", 2), ("copy", 1), ("copy", 0)], 1), [], columns, [],
                   (1, None, (3, 4, 1), 1, 0, 0, ()))

    def test_before_is_the_figure_of_the_sheet(self):
        kind = Kind(10, 2, [("read", 0, 3), ("copy", 0), OUT], 3)
        for deed in (None, ("read", 0, 3), OUT):
            self.assertEqual(behind(kind, [], beginning(kind, []), (4, 1), deed)[2], (4,))
        led = behind(kind, [], beginning(kind, []), (4, 1), None)
        self.assertEqual(behind(kind, [], led, (6, 1), ("copy", 0))[2], (6,))

    def test_carry(self):
        kind = Kind(5, 4, [FORGET, AGAIN], 2)
        self.check(kind, [], [(4, 4, 4, 4)], [], (2, None, (), 3, 0, 0, ()))
        self.check(kind, [], [(4, 4, 4, 4)], [(0, FORGET)], (1, None, (), 0, 0, -3, ()))
        self.check(kind, [], [(4, 4, 4, 4)], [(0, AGAIN)], (1, None, (), 4, 0, 1, ()))
        self.check(kind, [], [(4, 4, 4, 4)] * 2, [(0, AGAIN), (1, AGAIN)], (0, None, (), 5, 0, None, ()))

    def test_gap_and_near(self):
        kind = Kind(10, 1, [SWAP, OUT, TWICE], 3)
        # 3 is missing at the place 0; then 21 stands in place of 213.
        self.check(kind, [], [(3,)], [(0, OUT)], (2, None, (), 0, -1, -3, ()))
        self.check(kind, [], [(3,), (1,), (2,)], [(0, OUT)], (2, None, (), 0, -1, None, ()))
        # 10 stands in place of 100: that is 90 less, and two figures are written.
        self.check(kind, [], [(0,), (0,), (1,)], [(0, OUT)], (2, None, (), 0, -1, None, ()))
        self.check(kind, [], [(0,), (0,)], [(0, OUT)], (2, None, (), 0, -1, 0, ()))
        # Nothing stands in place of 100.
        self.check(kind, [], [(0,), (0,), (1,)], [(0, OUT), (1, OUT), (2, OUT)], (0, None, (), 0, -3, -100, ()))
        # 0000, 30000 and 3300 stand in place of 000, 3000 and 300.
        self.check(kind, [], [(0,), (0,), (0,)], [(2, TWICE)], (2, None, (), 0, 1, 0, ()))
        self.check(kind, [], [(0,), (0,), (0,), (3,)], [(2, TWICE)], (2, None, (), 0, 1, None, ()))
        self.check(kind, [], [(0,), (0,), (3,)], [(2, TWICE)], (2, None, (), 0, 1, 3, ()))
        # A waiting figure counts for near, but not for gap.
        self.check(kind, [], [(0,), (5,)], [(0, OUT), (1, SWAP)], (1, 5, (), 0, -2, -45, ()))
        self.check(kind, [], [(5,), (0,), (0,), (0,)], [(0, TWICE), (1, TWICE), (2, TWICE)],
                   (0, None, (), 0, 3, None, ()))
        self.check(kind, [], [(0,), (0,), (5,)], [(0, TWICE), (1, TWICE), (2, TWICE)], (0, None, (), 0, 3, None, ()))
        self.check(kind, [], [(0,), (0,), (1,)], [(0, TWICE), (1, TWICE)], (1, None, (), 0, 2, None, ()))

    def test_rests(self):
        kind = Kind(10, 1, [OUT, TWICE], 2)
        # 77 in place of 7; one column is done, two figures are written.
        self.check(kind, [9, 11, 60, 7, 1000], [(7,)], [(0, TWICE)],
                   (1, None, (), 0, 1, 7, ((7, 1, 1), (4, 10, 1), (10, 10, 40), (0, 3, 2), (70, 10, 100))))
        # Nothing in place of 7.
        self.check(kind, [9, 11, 60], [(7,)], [(0, OUT)],
                   (1, None, (), 0, -1, -7, ((2, 1, 1), (4, 10, 1), (53, 10, 1))))

    def test_the_order_of_the_lot(self):
        kind = Kind(10, 1, [("off", 4)], 1)
        for lot in ([3, 5, 7], [7, 3, 5], [5, 7, 3]):
            told = {3: (1, 1, 1), 5: (4, 0, 0), 7: (4, 3, 3)}
            self.check(kind, lot, [(1,)], [(0, ("off", 4))], (0, None, (), 0, 0, None, tuple(told[r] for r in lot)))


class AgainstDefinitionTest(unittest.TestCase):
    """behind and standing_of, against the words of promise 11."""

    def walk(self, kind, lot, columns, slips):
        """Puts the columns one by one; the sheet and slips are let at each of them, as the oracle tells."""
        told = dict(slips)
        led = beginning(kind, lot)
        for i, column in enumerate(columns):
            made = [slip for slip in slips if slip[0] < i]
            deed = told.get(i)
            more = made if deed is None else made + [(i, deed)]
            sheet = Sheet(kind.base, kind.rows, columns[:i + 1])
            try:
                if len(more) > kind.most:
                    raise oracle.Refused(kind.most)
                right = oracle.standing(kind, lot, columns[:i + 1], more)
            except oracle.Refused:
                with self.assertRaises(NotPossible) as caught:
                    behind(kind, lot, led, column, deed)
                self.assertIs(type(caught.exception), NotPossible)
                with self.assertRaises(InvalidSlips) as caught:
                    standing_of(kind, lot, sheet, more)
                self.assertEqual(caught.exception.index, len(made))
                return
            led = behind(kind, lot, led, column, deed)
            self.assertEqual(led, right, (kind.deeds, columns, slips))
            self.assertEqual(standing_of(kind, lot, sheet, more), right)

    def test_all_slips_of_short_sheets(self):
        for kind, many in ((KINDS[0], 3), (KINDS[2], 2), (KINDS[4], 2)):
            few = Kind(kind.base, kind.rows, kind.deeds, 2)
            for columns in product(oracle.all_columns(kind.base, kind.rows), repeat=many):
                if sum(columns[0]) % 3 == 0 or kind.base == 2:
                    for places in product([None] + kind.deeds, repeat=many):
                        slips = [(i, deed) for i, deed in enumerate(places) if deed is not None]
                        self.walk(few, [9, 4], list(columns), slips)

    def test_longer_sheets(self):
        told = random.Random(20)
        for turn in range(600):
            kind = told.choice(KINDS)
            columns = [told.choice(oracle.all_columns(kind.base, kind.rows)) for _ in range(told.randint(1, 12))]
            if told.random() < 0.5:
                columns = [told.choice([column, columns[0], (0,) * kind.rows]) for column in columns]
            places = told.sample(range(len(columns)), min(len(columns), told.randint(0, kind.most + 1)))
            slips = [(i, told.choice(kind.deeds)) for i in sorted(places)]
            self.walk(kind, told.choice(LOTS), columns, slips)

    def test_more_than_60_columns(self):
        for many in (60, 61, 150):
            for kind in (KINDS[2], KINDS[4], KINDS[8]):
                columns = [oracle.all_columns(kind.base, kind.rows)[i % kind.base] for i in range(many)]
                for slips in ([], [(many - 1, TWICE)], [(3, TWICE), (many - 1, SWAP)], [(many - 2, SWAP)]):
                    sheet = Sheet(kind.base, kind.rows, columns)
                    told = oracle.standing(kind, [7, 59], columns, slips)
                    self.assertEqual(standing_of(kind, [7, 59], sheet, slips), told)

    def test_what_comes_depends_on_the_standing_alone(self):
        for kind in (KINDS[0], KINDS[2]):
            seen = {}
            for columns in product(oracle.all_columns(kind.base, kind.rows), repeat=2):
                sheet = Sheet(kind.base, kind.rows, list(columns))
                for slips in [[]] + oracle.slips_of(kind, list(columns)):
                    seen.setdefault(standing_of(kind, [3, 7], sheet, slips), []).append((list(columns), slips))
            for standing, ways in seen.items():
                for column in oracle.all_columns(kind.base, kind.rows):
                    for deed in [None] + kind.deeds:
                        try:
                            led = behind(kind, [3, 7], standing, column, deed)
                        except NotPossible:
                            continue
                        for columns, slips in ways[:3]:
                            more = slips if deed is None else slips + [(2, deed)]
                            self.assertEqual(led, oracle.standing(kind, [3, 7], columns + [column], more))


class PossibleTest(unittest.TestCase):
    def refuse(self, kind, standing, column, deed):
        with self.subTest(standing=standing, column=column, deed=deed):
            with self.assertRaises(NotPossible) as caught:
                behind(kind, [], standing, column, deed)
            self.assertIs(type(caught.exception), NotPossible)
            self.assertIsInstance(caught.exception, SlipError)
            self.assertIsInstance(caught.exception, ValueError)

    def setUp(self):
        self.deeds = [FORGET, AGAIN, ("off", 3), ("read", 1, 2), ("copy", 0), SWAP, OUT, TWICE]
        self.kind = Kind(10, 2, self.deeds, 2)
        self.start = beginning(self.kind, [])

    def test_each_deed_where_it_is_possible(self):
        one = behind(self.kind, [], self.start, (2, 3), None)
        for deed, led in (
            (None, (2, None, (7,), 1, 0, 0, ())),
            (FORGET, (1, None, (7,), 0, 0, -1, ())),
            (AGAIN, (1, None, (7,), 2, 0, 1, ())),
            (("off", 3), (1, None, (7,), 1, 0, None, ())),
            (("read", 1, 2), (1, None, (7,), 0, 0, None, ())),
            (("copy", 0), (1, None, (7,), 1, 0, None, ())),
            (SWAP, (1, 6, (7,), 1, -1, 0, ())),
            (OUT, (1, None, (7,), 0, -1, -16, ())),
            (TWICE, (1, None, (7,), 1, 1, 16, ())),
        ):
            with self.subTest(deed=deed):
                self.assertEqual(behind(self.kind, [], one, (7, 9), deed), led)

    def test_no_slip_left(self):
        kind = Kind(10, 2, self.deeds, 1)
        none = behind(kind, [], beginning(kind, []), (9, 9), OUT)
        self.assertEqual(none[0], 0)
        for deed in self.deeds:
            self.refuse(kind, none, (9, 9), deed)
        self.assertEqual(behind(kind, [], none, (9, 9), None), (0, None, (9,), 1, -1, -18, ()))

    def test_a_figure_waits(self):
        waits = behind(self.kind, [], self.start, (9, 9), SWAP)
        self.assertEqual((waits[0], waits[1]), (1, 8))
        for deed in self.deeds:
            self.refuse(self.kind, waits, (9, 9), deed)
        self.assertEqual(behind(self.kind, [], waits, (9, 9), None), (1, None, (9,), 1, 0, None, ()))
        last = behind(self.kind, [], behind(self.kind, [], waits, (9, 9), None), (9, 9), SWAP)
        self.assertEqual((last[0], last[1]), (0, 9))
        for deed in self.deeds:
            self.refuse(self.kind, last, (9, 9), deed)

    def test_forget_without_a_carry(self):
        for column in ((0, 0), (4, 5), (9, 0)):
            self.refuse(self.kind, self.start, column, FORGET)
        self.assertEqual(behind(self.kind, [], self.start, (5, 5), FORGET)[3], 0)
        carries = behind(self.kind, [], self.start, (5, 5), None)
        self.refuse(self.kind, carries, (4, 4), FORGET)
        self.assertEqual(behind(self.kind, [], carries, (4, 5), FORGET)[3], 0)

    def test_copy_at_column_0(self):
        self.refuse(self.kind, self.start, (0, 0), ("copy", 0))
        for deed in (None, OUT, TWICE, AGAIN):
            led = behind(self.kind, [], self.start, (4, 0), deed)
            self.assertEqual(behind(self.kind, [], led, (1, 0), ("copy", 0))[2], (1,))

    def test_a_swap_is_possible_at_every_standing(self):
        for column in oracle.all_columns(10, 2):
            self.assertEqual(behind(self.kind, [], self.start, column, SWAP)[1], sum(column) % 10)

    def test_a_refused_step_changes_nothing(self):
        kind, lot = Kind(10, 2, self.deeds, 2), [9, 11]
        start = beginning(kind, lot)
        with self.assertRaises(NotPossible):
            behind(kind, lot, start, (0, 0), FORGET)
        self.assertEqual((lot, kind.deeds, start), ([9, 11], self.deeds, beginning(kind, lot)))


class StandingOfTest(unittest.TestCase):
    def setUp(self):
        self.kind = Kind(10, 2, [FORGET, AGAIN, ("off", 1), ("copy", 1), SWAP, OUT], 2)
        self.sheet = Sheet(10, 2, [(7, 5), (1, 0), (2, 3), (9, 9)])

    def refuse(self, slips, index, sheet=None, kind=None):
        with self.subTest(slips=slips):
            told = list(slips)
            with self.assertRaises(InvalidSlips) as caught:
                standing_of(kind or self.kind, [9], self.sheet if sheet is None else sheet, slips)
            self.assertIs(type(caught.exception), InvalidSlips)
            self.assertIsInstance(caught.exception, SlipError)
            self.assertEqual(caught.exception.index, index)
            self.assertEqual(slips, told)
            self.assertEqual(self.sheet.columns, [(7, 5), (1, 0), (2, 3), (9, 9)])

    def test_not_alike(self):
        for sheet in (Sheet(9, 2, [(7, 5)]), Sheet(11, 2, []), Sheet(10, 1, [(7,)]), Sheet(10, 3, [])):
            for slips in ([], [(0, AGAIN)], [None], ["nothing", (0, AGAIN)]):
                with self.assertRaises(NotAlike) as caught:
                    standing_of(self.kind, [9], sheet, slips)
                self.assertIs(type(caught.exception), NotAlike)

    def test_no_slips(self):
        for item in (None, 2, True, "2 again", [], [2, AGAIN], (), (2,), (AGAIN,), (2, AGAIN, 0), (AGAIN, 2), object()):
            self.refuse([item], 0)
            self.refuse([(0, AGAIN), item], 1)
            self.refuse([(0, AGAIN), (1, OUT), item], 2)
            self.refuse([item, None, (9, AGAIN)], 0)

    def test_no_column_of_the_sheet(self):
        for column in (4, 5, -1, True, False, 2.0, "2", None, 10 ** 30):
            self.refuse([(column, AGAIN)], 0)
            self.refuse([(0, AGAIN), (column, AGAIN)], 1)
        self.refuse([(0, AGAIN)], 0, Sheet(10, 2, []))

    def test_columns_that_do_not_ascend(self):
        self.refuse([(1, AGAIN), (1, OUT)], 1)
        self.refuse([(2, OUT), (0, OUT)], 1)

    def test_no_deed(self):
        for deed in (None, (), "again", ["again"], ("nothing",), ("off", 0), ("off", 10), ("off", True), ("off", 1.0),
                     ("copy", 2), ("copy", True), ("again", 1), AGAIN[0], (AGAIN,)):
            self.refuse([(2, deed)], 0)
            self.refuse([(0, AGAIN), (2, deed)], 1)

    def test_a_deed_that_is_not_in_the_kind(self):
        for deed in oracle.all_deeds(10, 2):
            if deed not in self.kind.deeds:
                self.refuse([(2, deed)], 0)
                self.refuse([(0, AGAIN), (2, deed)], 1)
                self.refuse([(2, deed), (2, deed)], 0)

    def test_one_too_many(self):
        for most in (1, 2, 3):
            kind = Kind(10, 2, [AGAIN, OUT], most)
            slips = [(0, AGAIN), (1, OUT), (2, AGAIN), (3, OUT)]
            self.assertEqual(standing_of(kind, [9], self.sheet, slips[:most])[0], 0)
            self.refuse(slips[:most + 1], most, kind=kind)
            self.refuse(slips, most, kind=kind)
            self.refuse(slips[:most] + [None], most, kind=kind)

    def test_what_is_not_possible(self):
        self.refuse([(1, FORGET)], 0)
        self.refuse([(0, FORGET), (1, FORGET)], 1)
        self.refuse([(0, ("copy", 1))], 0)
        self.refuse([(0, ("copy", 1)), (1, AGAIN)], 0)
        self.assertEqual(standing_of(self.kind, [9], self.sheet, [(0, FORGET), (3, FORGET)])[0], 0)

    def test_the_column_behind_a_swap(self):
        for deed in self.kind.deeds:
            self.refuse([(0, SWAP), (1, deed)], 1)
            self.refuse([(2, SWAP), (3, deed)], 1)
        self.assertEqual(standing_of(self.kind, [9], self.sheet, [(0, SWAP), (2, SWAP)])[:2], (0, None))

    def test_a_swap_at_the_last_column_waits(self):
        self.assertEqual(standing_of(self.kind, [9], self.sheet, [(3, SWAP)]),
                         (1, 8, (9,), 1, -1, 0, ((0, 1, 1),)))
        self.assertEqual(standing_of(self.kind, [], self.sheet.cut(0, 1), [(0, SWAP)])[1], 2)
        self.assertEqual(standing_of(self.kind, [], self.sheet, [(1, SWAP), (3, SWAP)])[:2], (0, 8))
        self.refuse([(3, SWAP), (4, AGAIN)], 1)
        self.refuse([(3, SWAP), (3, AGAIN)], 1)
        self.refuse([(3, SWAP), None], 1)

    def test_the_first_item_counts(self):
        self.refuse([(1, TWICE), None], 0)
        self.refuse([(0, AGAIN), (1, TWICE), (2, AGAIN), (9, AGAIN)], 1)
        self.refuse([(0, AGAIN), (1, OUT), (2, TWICE)], 2)


class GeneralTest(unittest.TestCase):
    def test_arguments_stay_as_they_were(self):
        kind = Kind(10, 1, [SWAP, TWICE], 2)
        lot, slips, columns = [9, 11], [(0, TWICE), (2, SWAP)], [(7,), (5,), (3,)]
        sheet = Sheet(10, 1, columns)
        first = standing_of(kind, lot, sheet, slips)
        self.assertEqual(behind(kind, lot, first, (4,), None)[1], None)
        self.assertEqual((lot, slips, sheet.columns), ([9, 11], [(0, TWICE), (2, SWAP)], [(7,), (5,), (3,)]))
        lot.append(13)
        sheet[0] = (0,)
        self.assertEqual(standing_of(kind, [9, 11], Sheet(10, 1, columns), slips), first)

    def test_the_same_call_returns_the_same(self):
        kind = KINDS[4]
        told = [beginning(kind, [9]), behind(kind, [9], beginning(kind, [9]), (7,), TWICE)]
        for other in KINDS:
            standing_of(other, [9, 5], Sheet(other.base, other.rows, [(1,) * other.rows] * 4), [])
            beginning(other, [2])
        self.assertEqual([beginning(kind, [9]), behind(kind, [9], beginning(kind, [9]), (7,), TWICE)], told)


if __name__ == "__main__":
    unittest.main()
