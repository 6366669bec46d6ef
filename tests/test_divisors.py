"""Promises 4 and 10: what is no lot, in each function that takes one."""

import unittest

from sumslips.counts import counts
from sumslips.errors import InvalidLot, SlipError
from sumslips.explaining import slips_shown
from sumslips.finding import closed_list, is_closed, missed
from sumslips.kinds import Kind
from sumslips.ledger import Ledger
from sumslips.lots import least_lots, parting
from sumslips.sheets import Sheet
from sumslips.standings import beginning, behind, standing_of

KIND = Kind(2, 1, [("off", 1)], 1)
START = (1, None, None, 0, 0, 0, ((0, 1, 1),))

CALLS = {
    "beginning": lambda lot: beginning(KIND, lot),
    "behind": lambda lot: behind(KIND, lot, START, (0,), None),
    "standing_of": lambda lot: standing_of(KIND, lot, Sheet(2, 1, [(1,)]), []),
    "missed": lambda lot: missed(KIND, lot),
    "closed_list": lambda lot: closed_list(KIND, lot),
    "is_closed": lambda lot: is_closed(KIND, lot, []),
    "least_lots": lambda lot: least_lots(KIND, lot),
    "parting, first lot": lambda lot: parting(KIND, lot, [3]),
    "parting, other lot": lambda lot: parting(KIND, [3], lot),
    "counts": lambda lot: counts(KIND, lot, columns=1),
    "slips_shown": lambda lot: slips_shown(KIND, Sheet(2, 1, [(1,)]), lot, [0] * 6),
    "Ledger": lambda lot: Ledger(KIND, lot),
}

# More than 3,000 standings can come for this kind and [465].
WIDE = Kind(8, 1, [("swap",)], 1)

# Each of these would raise another error if the lot were one.
LATE = {
    "behind": lambda lot: behind(KIND, lot, (0, None, (), 0, 0, None, ((1, 2, 2),)), (0,), ("off", 1)),
    "standing_of, not alike": lambda lot: standing_of(KIND, lot, Sheet(3, 1, [(1,)]), []),
    "standing_of, no slips": lambda lot: standing_of(KIND, lot, Sheet(2, 1, [(1,)]), [None]),
    "missed": lambda lot: missed(WIDE, lot),
    "closed_list": lambda lot: closed_list(WIDE, lot),
    "is_closed": lambda lot: is_closed(WIDE, lot, []),
    "least_lots": lambda lot: least_lots(WIDE, lot),
    "parting, first lot": lambda lot: parting(WIDE, lot, [465]),
    "parting, other lot": lambda lot: parting(WIDE, [465], lot),
    "counts": lambda lot: counts(WIDE, lot, columns=0),
    "slips_shown": lambda lot: slips_shown(KIND, Sheet(3, 1, [(1,)]), lot, [0] * 6),
}

NO_DIVISORS = (1, 0, -1, -9, -10 ** 30, True, False, None, "", "9", b"9", 9.0, 2.5, 9j, (), (9,), [], [9], {}, {9: 9},
               {9}, frozenset([9]), object(), int, Kind)

NO_LISTS = (None, True, False, 0, 2, 9, 9.0, "", "9", "9 11", b"9", (), (9,), (9, 11), {}, {9: 11}, {9}, frozenset([9]),
            range(2, 4), iter([9]), object(), list, KIND)


class NoLotTest(unittest.TestCase):
    def refuse(self, lot):
        for calls in (CALLS, LATE):
            for name, call in calls.items():
                with self.subTest(name=name, lot=lot):
                    with self.assertRaises(InvalidLot) as caught:
                        call(lot)
                    self.assertIs(type(caught.exception), InvalidLot)
                    self.assertIsInstance(caught.exception, SlipError)
                    self.assertIsInstance(caught.exception, ValueError)

    def test_no_list(self):
        for lot in NO_LISTS:
            self.refuse(lot)

    def test_no_divisor_at_any_index(self):
        for wrong in NO_DIVISORS:
            self.refuse([wrong])
            for index in range(4):
                lot = [9, 11, 13]
                lot.insert(index, wrong)
                self.refuse(lot)

    def test_a_divisor_twice(self):
        for lot in ([2, 2], [9, 9, 11], [9, 11, 9], [11, 9, 9], [5, 4, 3, 5], [2, 3, 4, 5, 6, 2], [10 ** 30, 10 ** 30]):
            self.refuse(lot)

    def test_true_beside_one_that_is_equal(self):
        self.refuse([True, 1])
        self.refuse([2, 2.0])

    def test_a_refused_lot_stays_as_it_was(self):
        lot = [9, 11, [3], 9]
        self.refuse(lot)
        self.assertEqual(lot, [9, 11, [3], 9])

    def test_every_lot_is_let(self):
        for lot in ([], [2], [60], [73], [2, 4], [4, 2], [3, 2, 5], [2, 3, 4, 6], [2, 3, 4, 6, 8, 12], [12, 6, 4, 2, 8],
                    [63], [127], [64, 62, 93]):
            start = beginning(KIND, lot)
            self.assertEqual(len(behind(KIND, lot, start, (0,), None)[6]), len(lot))
            for name, call in CALLS.items():
                if name != "behind":
                    with self.subTest(name=name, lot=lot):
                        call(lot)

    def test_divisors_of_any_size(self):
        lot = [10 ** 40, 2, 7, 61, 3, 10 ** 6]
        told = standing_of(KIND, lot, Sheet(2, 1, [(0,), (0,)]), [(1, ("off", 1))])
        self.assertEqual(told[6], ((2, 4, 4), (0, 0, 0), (2, 4, 4), (2, 4, 4), (2, 1, 1), (2, 4, 4)))
        self.assertEqual(beginning(KIND, lot)[6], ((0, 1, 1),) * 6)


if __name__ == "__main__":
    unittest.main()
