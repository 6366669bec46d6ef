"""Promises 4, 5 and 17: the next missed of a ledger."""

import random
import unittest
from itertools import product

import oracle
from ledger_case import AGAIN, FORGET, OUT, SWAP, TWICE, WIDE, LedgerCase
from sumslips.adding import add_with
from sumslips.errors import TooMany
from sumslips.kinds import Kind
from sumslips.ledger import Ledger
from sumslips.sheets import Sheet


class NextMissedTest(LedgerCase):
    def told(self, ledger, columns, slips):
        """Compares the next missed, told by its columns, by hand."""
        found = ledger.next_missed()
        self.assertEqual((type(found), len(found)), (tuple, 2))
        self.assertIs(type(found[0]), Sheet)
        self.assertEqual(found[0], Sheet(ledger.sheet.base, ledger.sheet.rows, columns))
        self.assertEqual(repr(found[1]), repr(slips))

    def test_from_the_beginning(self):
        self.told(Ledger(Kind(10, 2, [("off", 9)], 1), [9]), [(0, 0)], [(0, ("off", 9))])
        self.told(Ledger(Kind(10, 1, [SWAP], 1), [9]), [(0,), (1,)], [(0, SWAP)])
        self.assertIsNone(Ledger(Kind(10, 2, [("off", 9)], 1), [11]).next_missed())

    def test_no_column_follows(self):
        ledger = Ledger(Kind(10, 2, [("off", 9)], 2), [9])
        ledger.put((0, 0), deed=("off", 9))
        self.told(ledger, [], [])
        ledger.put((3, 4))
        self.told(ledger, [], [])
        ledger = Ledger(Kind(10, 1, [AGAIN], 1), [])
        ledger.put((1,), deed=AGAIN)
        self.told(ledger, [], [])

    def test_columns_follow_without_further_slips(self):
        # The second of two figures is put, and then they are exchanged.
        ledger = Ledger(Kind(10, 1, [SWAP], 1), [9])
        ledger.put((4,))
        ledger.put((0,), deed=SWAP)
        self.told(ledger, [(1,)], [])
        ledger = Ledger(Kind(10, 1, [OUT], 1), [7])
        ledger.put((3,), deed=OUT)
        # 2 is written in place of 23: that is 21 less.
        self.told(ledger, [(2,)], [])

    def test_the_numbers_of_the_columns(self):
        kind = Kind(10, 2, [("off", 9)], 1)
        ledger = Ledger(kind, [9])
        for many in range(1, 60):
            ledger.put((many % 10, 3))
            if many % 7 == 0:
                carries = ledger.standing[3]
                column = (0, 0) if carries == 0 else (0, 9)
                self.told(ledger, [column], [(many, ("off", 9))])

    def test_none_can_follow(self):
        # 11 sees a figure that is greater by 1 at once, and sees it ever after.
        ledger = Ledger(Kind(10, 1, [("off", 1)], 1), [11])
        ledger.put((3,))
        self.assertIsNone(ledger.next_missed())
        ledger.put((3,), deed=("off", 1))
        self.assertIsNone(ledger.next_missed())
        ledger.put((3,))
        self.assertIsNone(ledger.next_missed())
        # No slip is left, and the result is harmless; where one was left, there was a missed one.
        ledger = Ledger(Kind(10, 1, [SWAP], 1), [9])
        ledger.put((3,), deed=SWAP)
        self.told(ledger, [(0,)], [])
        ledger.put((3,))
        self.assertIsNone(ledger.next_missed())

    def test_behind_back(self):
        ledger = Ledger(Kind(10, 1, [SWAP], 1), [9])
        ledger.put((3,), deed=SWAP)
        ledger.put((3,))
        self.assertIsNone(ledger.next_missed())
        ledger.back()
        self.told(ledger, [(0,)], [])
        ledger.back()
        self.told(ledger, [(0,), (1,)], [(0, SWAP)])
        self.assertEqual(self.state(ledger), self.state(Ledger(Kind(10, 1, [SWAP], 1), [9])))

    def test_too_many(self):
        ledger = Ledger(WIDE, [465])
        for column, deed in (((7,), None), ((1,), SWAP), ((0,), None)):
            before = self.state(ledger)
            for _ in range(2):
                self.refuse(TooMany, ledger.next_missed)
                self.assertEqual(self.state(ledger), before)
            ledger.put(column, deed=deed)
        self.refuse(TooMany, ledger.next_missed)
        ledger.back(count=3)
        self.refuse(TooMany, ledger.next_missed)
        # Also where a result is missed already.
        ledger = Ledger(Kind(2, 1, [("off", 1)], 1), [10 ** 30 + 57])
        ledger.put((0,), deed=("off", 1))
        self.refuse(TooMany, ledger.next_missed)

    def test_just_as_many_as_can_be(self):
        ledger = Ledger(Kind(2, 1, [("off", 1)], 2), [1488])
        self.assertIsNotNone(ledger.next_missed())

    def compare(self, kind, lot, many, follow):
        for columns in product(oracle.all_columns(kind.base, kind.rows), repeat=many):
            columns = list(columns)
            ways = [[]] + oracle.slips_of(kind, columns)
            if SWAP in kind.deeds and many:
                ways += [slips + [(many - 1, SWAP)] for slips in [[]] + oracle.slips_of(kind, columns[:-1])
                         if len(slips) < kind.most]
            for slips in ways:
                ledger, told = Ledger(kind, lot), dict(slips)
                for at, column in enumerate(columns):
                    ledger.put(column, deed=told.get(at))
                before = self.state(ledger)
                found = ledger.next_missed()
                self.assertEqual(self.state(ledger), before)
                right = oracle.next_missed(kind, lot, columns, slips, follow)
                if right is not None:
                    self.assertEqual((found[0].columns, found[1]), right, (kind.deeds, lot, columns, slips))
                elif found is not None:
                    self.assertGreater(len(found[0]), follow)
                    sheet = ledger.sheet + found[0]
                    written = add_with(sheet, slips + found[1])
                    self.assertTrue(oracle.is_missed(lot, written - sheet))

    def test_against_trying(self):
        deeds = [FORGET, AGAIN, ("off", 1), ("read", 0, 1), ("copy", 0), SWAP, OUT, TWICE]
        few = [SWAP, ("copy", 0)]
        for some, lot in (([SWAP], [3]), ([OUT, TWICE], [3]), (few, [5]), (deeds[:4], [3]), (deeds, [2])):
            for many in range(3):
                self.compare(Kind(2, 1, some, 2), lot, many, 3)
        self.compare(Kind(2, 1, deeds, 1), [5], 2, 3)
        self.compare(Kind(2, 1, [SWAP, AGAIN], 3), [], 2, 2)
        self.compare(Kind(2, 2, [FORGET, ("copy", 1), SWAP], 2), [3], 1, 2)
        self.compare(Kind(3, 1, [("off", 1), SWAP, OUT], 2), [4], 1, 3)
        self.compare(Kind(10, 1, [SWAP, TWICE], 2), [9], 1, 1)

    def test_longer_sheets_and_kinds_with_many_columns(self):
        kind = Kind(10, 2, [SWAP, ("read", 0, 3)], 2)
        told = random.Random(3)
        for _ in range(12):
            ledger, columns, slips = Ledger(kind, [9]), [], []
            for at in range(told.randint(0, 8)):
                column, deed = told.choice(oracle.all_columns(10, 2)), told.choice([None, None, SWAP, ("read", 0, 3)])
                if ledger.waits or ledger.standing[0] == 0:
                    deed = None
                ledger.put(column, deed=deed)
                columns.append(column)
                slips += [] if deed is None else [(at, deed)]
            found, right = ledger.next_missed(), oracle.next_missed(kind, [9], columns, slips, 1)
            if right is not None:
                self.assertEqual((found[0].columns, found[1]), right)
            elif found is not None:
                self.assertGreater(len(found[0]), 1)


if __name__ == "__main__":
    unittest.main()
