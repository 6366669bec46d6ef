"""Promises 2, 4 and 17: a ledger."""

import random
import unittest
from itertools import product

import oracle
from ledger_case import AGAIN, FORGET, OUT, SWAP, TWICE, WIDE, LedgerCase
from sumslips.adding import Written, add_with
from sumslips.errors import InvalidColumn, InvalidLot, NothingToUndo, NotPossible, Waits
from sumslips.kinds import Kind
from sumslips.ledger import Ledger
from sumslips.sheets import Sheet
from sumslips.standings import beginning, standing_of

EVERY = [FORGET, AGAIN, ("off", 3), ("read", 1, 2), ("copy", 0), SWAP, OUT, TWICE]

NO_COLUMNS = (None, True, False, 0, 7, "75", "", b"75", [7, 5], [], (), (7,), (7, 5, 0), (7, 10), (10, 7), (-1, 5),
              (7, -1), (7, True), (False, 5), (7, 5.0), (7, "5"), (7, None), ((7,), (5,)), {7, 5}, {7: 5}, range(2),
              object(), tuple, (7, 10 ** 30), Sheet(10, 2, [(7, 5)]))

NO_DEEDS = (False, True, 0, 1, "again", "", b"again", (), [], ["again"], [("again",)], ("again", 1), ("Again",),
            ("nothing",), ("off",), ("off", 0), ("off", 10), ("off", True), ("off", 3.0), ("off", "3"), ("read", 1),
            ("read", 2, 2), ("read", 1, 2, 0), ("copy", 2), ("copy", False), (("again",),), ("again", None),
            {"again"}, {"again": 1}, ("read", [1], 2), object(), tuple, (None,), 10 ** 30)


class BeginTest(LedgerCase):
    def test_nothing_is_there_at_first(self):
        for kind in (Kind(10, 2, EVERY, 2), Kind(2, 1, [OUT], 3), Kind(5, 4, [("copy", 3)], 1)):
            for lot in ([], [9], [11, 9]):
                ledger = Ledger(kind, lot)
                self.check(ledger, kind, lot, [], [])
                self.assertEqual(ledger.standing, beginning(kind, lot))
                self.assertEqual(ledger.result(), Written(kind.base, [], 0))

    def test_no_lot(self):
        kind = Kind(10, 2, EVERY, 2)
        for lot in (None, 9, "9", (9,), {9}, [1], [0], [9, 9], [9.0], [True], ["9"], [[9]], [9, None]):
            self.refuse(InvalidLot, Ledger, kind, lot)

    def test_a_lot_for_which_too_many_standings_can_come(self):
        ledger = Ledger(WIDE, [465])
        ledger.put((7,), deed=SWAP)
        ledger.put((1,))
        self.check(ledger, WIDE, [465], [(7,), (1,)], [(0, SWAP)])


class PutTest(LedgerCase):
    def setUp(self):
        self.kind = Kind(10, 2, EVERY, 2)
        self.ledger = Ledger(self.kind, [9, 11])

    def test_without_deeds(self):
        columns = []
        for column in ((7, 5), (1, 0), (9, 9), (0, 0), (3, 6)):
            self.assertIsNone(self.ledger.put(column))
            columns.append(column)
            self.check(self.ledger, self.kind, [9, 11], columns, [])
        self.assertIsNone(self.ledger.put((4, 4), deed=None))
        self.check(self.ledger, self.kind, [9, 11], columns + [(4, 4)], [])

    def test_each_deed_where_it_is_possible(self):
        for deed in EVERY:
            ledger = Ledger(self.kind, [9, 11])
            ledger.put((2, 3))
            self.assertIsNone(ledger.put((7, 9), deed=deed))
            self.check(ledger, self.kind, [9, 11], [(2, 3), (7, 9)], [(1, deed)])
            ledger.put((8, 8))
            self.check(ledger, self.kind, [9, 11], [(2, 3), (7, 9), (8, 8)], [(1, deed)])
            ledger.put((5, 0), deed=AGAIN)
            self.check(ledger, self.kind, [9, 11], [(2, 3), (7, 9), (8, 8), (5, 0)], [(1, deed), (3, AGAIN)])

    def not_possible(self, ledger, column, deed):
        before = self.state(ledger)
        with self.subTest(column=column, deed=deed):
            self.refuse(NotPossible, ledger.put, column, deed=deed)
            self.assertEqual(self.state(ledger), before)

    def test_forget_without_a_carry(self):
        for column in ((0, 0), (4, 5), (9, 0)):
            self.not_possible(self.ledger, column, FORGET)
        self.ledger.put((5, 5))
        self.not_possible(self.ledger, (4, 4), FORGET)
        self.ledger.put((4, 5), deed=FORGET)
        self.check(self.ledger, self.kind, [9, 11], [(5, 5), (4, 5)], [(1, FORGET)])

    def test_copy_at_column_0(self):
        self.not_possible(self.ledger, (0, 0), ("copy", 0))
        self.ledger.put((6, 1))
        self.ledger.put((2, 1), deed=("copy", 0))
        self.assertEqual(self.ledger.result(), Written(10, [7, 7], 0))

    def test_no_slip_left(self):
        for column in ((1, 2), (3, 4)):
            self.ledger.put(column, deed=OUT)
        for deed in EVERY:
            self.not_possible(self.ledger, (9, 9), deed)
        self.ledger.put((9, 9))
        for deed in EVERY:
            self.not_possible(self.ledger, (9, 9), deed)
        self.check(self.ledger, self.kind, [9, 11], [(1, 2), (3, 4), (9, 9)], [(0, OUT), (1, OUT)])

    def test_a_swap_waits(self):
        self.ledger.put((7, 5), deed=SWAP)
        self.assertIs(self.ledger.waits, True)
        self.check(self.ledger, self.kind, [9, 11], [(7, 5)], [(0, SWAP)])
        for deed in EVERY:
            self.not_possible(self.ledger, (9, 9), deed)
        self.assertIs(self.ledger.waits, True)
        self.ledger.put((1, 0))
        self.assertIs(self.ledger.waits, False)
        # 22 is written as 22; with the next two columns 34 as 43.
        self.assertEqual(self.ledger.result(), Written(10, [2, 2], 0))
        self.ledger.put((2, 2), deed=SWAP)
        self.ledger.put((3, 0))
        self.check(self.ledger, self.kind, [9, 11], [(7, 5), (1, 0), (2, 2), (3, 0)], [(0, SWAP), (2, SWAP)])
        self.assertEqual(self.ledger.result(), Written(10, [2, 2, 3, 4], 0))

    def test_a_deed_that_is_not_in_the_kind(self):
        for deed in oracle.all_deeds(10, 2):
            if deed not in EVERY:
                self.not_possible(self.ledger, (9, 9), deed)
        few = Ledger(Kind(10, 2, [TWICE], 3), [])
        few.put((9, 9))
        for deed in EVERY[:-1]:
            self.not_possible(few, (9, 9), deed)

    def test_no_deed(self):
        self.ledger.put((9, 9))
        for deed in NO_DEEDS:
            self.not_possible(self.ledger, (9, 9), deed)
        self.ledger.put((9, 9), deed=SWAP)
        for deed in NO_DEEDS:
            self.not_possible(self.ledger, (9, 9), deed)

    def no_columns(self):
        before = self.state(self.ledger)
        for column in NO_COLUMNS:
            with self.subTest(column=column):
                self.refuse(InvalidColumn, self.ledger.put, column)
                # The column is checked ahead of the deed.
                for deed in (None, AGAIN, FORGET, SWAP, ("copy", 0), ("copy", 1), "again", ["again"], 7):
                    self.refuse(InvalidColumn, self.ledger.put, column, deed=deed)
                self.assertEqual(self.state(self.ledger), before)

    def test_no_column(self):
        self.no_columns()
        self.ledger.put((9, 9))
        self.no_columns()
        # While a figure waits, no deed is possible.
        self.ledger.put((9, 9), deed=SWAP)
        self.no_columns()

    def test_columns_of_other_kinds(self):
        ledger = Ledger(Kind(2, 1, [OUT], 1), [3])
        for column in ((2,), (0, 0), (-1,)):
            self.refuse(InvalidColumn, ledger.put, column)
            self.refuse(InvalidColumn, ledger.put, column, deed=TWICE)
        ledger.put((1,))
        ledger = Ledger(Kind(12, 2, [OUT], 1), [3])
        self.refuse(InvalidColumn, ledger.put, (12, 0))
        ledger.put((11, 11), deed=OUT)
        self.assertEqual(ledger.sheet, Sheet(12, 2, [(11, 11)]))

    def test_the_deed_is_passed_by_its_name_alone(self):
        with self.assertRaises(TypeError):
            self.ledger.put((9, 9), AGAIN)
        self.check(self.ledger, self.kind, [9, 11], [], [])


class BackTest(LedgerCase):
    def setUp(self):
        self.kind = Kind(10, 2, EVERY, 3)
        self.columns = [(7, 5), (1, 0), (9, 9), (0, 3), (3, 6), (8, 8)]
        self.told = {0: AGAIN, 2: SWAP, 5: OUT}
        self.ledger = Ledger(self.kind, [7])
        self.fill(0)

    def fill(self, low):
        for at in range(low, len(self.columns)):
            self.ledger.put(self.columns[at], deed=self.told.get(at))

    def check_first(self, many):
        slips = [(at, deed) for at, deed in self.told.items() if at < many]
        self.check(self.ledger, self.kind, [7], self.columns[:many], slips)

    def test_one_by_one(self):
        for many in range(6, 0, -1):
            self.check_first(many)
            self.assertIsNone(self.ledger.back())
        self.check_first(0)
        self.fill(0)
        self.check_first(6)

    def test_several(self):
        for count in range(7):
            self.assertIsNone(self.ledger.back(count=count))
            self.check_first(6 - count)
            self.fill(6 - count)
            self.check_first(6)

    def test_none(self):
        self.ledger.back(count=0)
        self.check_first(6)
        empty = Ledger(self.kind, [7])
        self.assertIsNone(empty.back(count=0))
        self.check(empty, self.kind, [7], [], [])

    def test_too_many(self):
        for many in range(6, -1, -1):
            for count in (many + 1, many + 2, 200, 201, 10 ** 30):
                self.refuse(NothingToUndo, self.ledger.back, count=count)
                self.check_first(many)
            if many:
                self.ledger.back()
        self.refuse(NothingToUndo, self.ledger.back)
        self.check_first(0)

    def test_a_figure_that_waits(self):
        self.ledger.back(count=3)
        self.assertIs(self.ledger.waits, True)
        self.check_first(3)
        # The column behind the swap is taken back, and another one takes its place.
        self.ledger.put((5, 5))
        self.check(self.ledger, self.kind, [7], self.columns[:3] + [(5, 5)], [(0, AGAIN), (2, SWAP)])
        self.ledger.back()
        self.check_first(3)
        # The swap itself is taken back: a slip is left again.
        self.ledger.back()
        self.assertIs(self.ledger.waits, False)
        self.check_first(2)
        self.ledger.put((9, 9), deed=TWICE)
        self.ledger.put((9, 9), deed=FORGET)
        self.check(self.ledger, self.kind, [7], self.columns[:2] + [(9, 9)] * 2, [(0, AGAIN), (2, TWICE), (3, FORGET)])

    def test_many_columns(self):
        self.ledger.back(count=6)
        for _ in range(200):
            self.ledger.put((4, 5))
        self.assertEqual(len(self.ledger), 200)
        self.refuse(NothingToUndo, self.ledger.back, count=201)
        self.ledger.back(count=200)
        self.check_first(0)

    def test_the_number_is_passed_by_its_name_alone(self):
        with self.assertRaises(TypeError):
            self.ledger.back(2)
        self.check_first(6)

    def test_as_if_the_columns_had_never_been_there(self):
        told = random.Random(17)
        for _ in range(40):
            kinds = self.kind, Kind(2, 1, [OUT, TWICE, SWAP, ("copy", 0)], 3), Kind(5, 3, [SWAP, AGAIN], 2)
            kind = told.choice(kinds)
            ledger, columns, slips = Ledger(kind, [9, 4]), [], []
            for _ in range(40):
                if told.random() < 0.3:
                    count = told.randint(0, 3)
                    if count > len(columns):
                        self.refuse(NothingToUndo, ledger.back, count=count)
                        continue
                    ledger.back(count=count)
                    columns = columns[:len(columns) - count]
                    slips = [slip for slip in slips if slip[0] < len(columns)]
                else:
                    column = told.choice(oracle.all_columns(kind.base, kind.rows))
                    deed = told.choice([None] + kind.deeds)
                    more = slips if deed is None else slips + [(len(columns), deed)]
                    try:
                        if len(more) > kind.most:
                            raise oracle.Refused(0)
                        oracle.standing(kind, [9, 4], columns + [column], more)
                    except oracle.Refused:
                        self.refuse(NotPossible, ledger.put, column, deed=deed)
                    else:
                        ledger.put(column, deed=deed)
                        columns, slips = columns + [column], more
                self.check(ledger, kind, [9, 4], columns, slips)


class ResultTest(LedgerCase):
    def test_what_adding_writes(self):
        kind = Kind(3, 2, [FORGET, ("off", 2), ("read", 1, 1), ("copy", 1), SWAP, OUT, TWICE], 2)
        for columns in product([(0, 1), (2, 2), (1, 2)], repeat=3):
            sheet = Sheet(3, 2, list(columns))
            for slips in [[]] + oracle.slips_of(kind, list(columns)):
                ledger = Ledger(kind, [])
                told = dict(slips)
                for at, column in enumerate(columns):
                    ledger.put(column, deed=told.get(at))
                self.assertEqual(ledger.result(), add_with(sheet, slips))
                self.assertEqual(ledger.standing, standing_of(kind, [], sheet, slips))

    def test_waits(self):
        ledger = Ledger(Kind(10, 1, [SWAP], 2), [9])
        ledger.put((1,), deed=SWAP)
        before = self.state(ledger)
        self.refuse(Waits, ledger.result)
        self.assertEqual(self.state(ledger), before)
        ledger.put((2,))
        self.assertEqual(ledger.result(), Written(10, [2, 1], 0))
        ledger.put((3,), deed=SWAP)
        self.refuse(Waits, ledger.result)
        ledger.back()
        self.assertEqual(ledger.result(), Written(10, [2, 1], 0))


class GeneralTest(LedgerCase):
    def test_what_is_passed_stays_as_it_was_and_may_be_changed(self):
        for asked in (False, True):
            lot, deeds = [7], [SWAP, OUT]
            kind = Kind(10, 1, deeds, 1)
            ledger = Ledger(kind, lot)
            ledger.put((3,), deed=OUT)
            if asked:
                self.assertEqual(ledger.next_missed(), (Sheet(10, 1, [(2,)]), []))
            self.assertEqual((lot, deeds, kind), ([7], [SWAP, OUT], Kind(10, 1, [SWAP, OUT], 1)))
            before = self.state(ledger)
            lot[0] = 5
            deeds.clear()
            kind.deeds.clear()
            self.assertEqual(self.state(ledger), before)
            self.assertEqual(ledger.next_missed(), (Sheet(10, 1, [(2,)]), []))
            lot.clear()
            ledger.put((1,))
            self.check(ledger, kind, [7], [(3,), (1,)], [(0, OUT)])
            self.assertEqual(ledger.next_missed(), (Sheet(10, 1, [(5,)]), []))

    def test_what_is_returned_may_be_changed(self):
        kind = Kind(10, 1, [SWAP, AGAIN], 3)
        ledger = Ledger(kind, [11])
        for column, deed in (((7,), AGAIN), ((5,), SWAP), ((3,), None)):
            ledger.put(column, deed=deed)
        before = self.state(ledger)
        found = ledger.next_missed()
        self.assertEqual(oracle.next_missed(kind, [11], [(7,), (5,), (3,)], [(0, AGAIN), (1, SWAP)], 2),
                         (found[0].columns, found[1]))
        ledger.sheet[0] = (0,)
        ledger.sheet.columns.append((9,))
        ledger.slips.append((2, AGAIN))
        ledger.slips.clear()
        ledger.result().figures.append(1)
        sheet, slips = ledger.sheet, ledger.slips
        sheet[1] = (9,)
        slips.pop()
        self.assertEqual(self.state(ledger), before)
        again = ledger.next_missed()
        self.assertEqual(again, found)
        found[0][0] = (9,)
        found[1].append(7)
        self.assertNotEqual(found, again)
        self.assertEqual(ledger.next_missed(), again)
        self.check(ledger, kind, [11], [(7,), (5,), (3,)], [(0, AGAIN), (1, SWAP)])

    def test_a_sheet_stays_as_it_was_when_it_was_asked_for(self):
        ledger = Ledger(Kind(10, 1, [SWAP], 1), [9])
        ledger.put((7,), deed=SWAP)
        sheet, slips, standing, waits = ledger.sheet, ledger.slips, ledger.standing, ledger.waits
        ledger.put((5,))
        self.assertEqual((sheet, slips, standing[1], waits), (Sheet(10, 1, [(7,)]), [(0, SWAP)], 7, True))
        ledger.back(count=2)
        self.assertEqual((sheet, slips), (Sheet(10, 1, [(7,)]), [(0, SWAP)]))

    def test_two_ledgers_do_not_touch_each_other(self):
        kind = Kind(10, 1, [SWAP, OUT], 1)
        lot = [9]
        one, other = Ledger(kind, lot), Ledger(kind, lot)
        one.put((1,), deed=SWAP)
        self.check(other, kind, lot, [], [])
        other.put((2,), deed=OUT)
        third = Ledger(Kind(10, 1, [OUT], 2), [11])
        third.put((4,))
        one.put((3,))
        other.back()
        self.check(one, kind, lot, [(1,), (3,)], [(0, SWAP)])
        self.check(other, kind, lot, [], [])
        self.check(third, Kind(10, 1, [OUT], 2), [11], [(4,)], [])
        self.assertEqual(one.next_missed(), (Sheet(10, 1, []), []))
        self.assertEqual(third.next_missed()[1][0][0], 1)

    def test_properties_are_not_assigned(self):
        ledger = Ledger(Kind(10, 1, [SWAP], 1), [9])
        for name in ("sheet", "slips", "standing", "waits"):
            with self.assertRaises(AttributeError):
                setattr(ledger, name, None)


if __name__ == "__main__":
    unittest.main()
