"""What the tests of ledgers share."""

import unittest

import oracle
from sumslips.adding import Written
from sumslips.errors import SlipError, Waits
from sumslips.kinds import Kind
from sumslips.sheets import Sheet

FORGET, AGAIN, SWAP, OUT, TWICE = ("forget",), ("again",), ("swap",), ("out",), ("twice",)

# More than 3,000 standings can come for this kind and [465].
WIDE = Kind(8, 1, [SWAP], 1)


class LedgerCase(unittest.TestCase):
    def state(self, ledger):
        """All that a ledger tells of the columns that are there."""
        told = [ledger.sheet, ledger.slips, ledger.standing, ledger.waits, len(ledger)]
        return told if ledger.waits else told + [ledger.result()]

    def check(self, ledger, kind, lot, columns, slips):
        """Compares what a ledger tells with what is put into it, by the words of the document."""
        self.assertEqual(ledger.sheet, Sheet(kind.base, kind.rows, columns))
        self.assertEqual(repr(ledger.slips), repr(slips))
        self.assertIs(type(len(ledger)), int)
        self.assertEqual(len(ledger), len(columns))
        told = oracle.standing(kind, lot, columns, slips)
        self.assertEqual(repr(ledger.standing), repr(told))
        self.assertIs(ledger.waits, told[1] is not None)
        if ledger.waits:
            self.refuse(Waits, ledger.result)
        else:
            figures, last, _ = oracle.add(kind.base, columns, slips)
            self.assertEqual(ledger.result(), Written(kind.base, figures, last))

    def refuse(self, error, call, *arguments, **more):
        with self.assertRaises(error) as caught:
            call(*arguments, **more)
        self.assertIs(type(caught.exception), error)
        self.assertIsInstance(caught.exception, SlipError)
        self.assertIsInstance(caught.exception, ValueError)
