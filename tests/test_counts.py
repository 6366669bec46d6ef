"""Promises 2, 5 (f) and 15: counts."""

import inspect
import random
import unittest

import oracle
from sumslips.counts import counts
from sumslips.errors import TooMany
from sumslips.finding import missed
from sumslips.kinds import Kind

FORGET, AGAIN, SWAP, OUT, TWICE = ("forget",), ("again",), ("swap",), ("out",), ("twice",)


class CountsTest(unittest.TestCase):
    def compare(self, kind, lot, most):
        for many in range(most + 1):
            with self.subTest(base=kind.base, deeds=kind.deeds, most=kind.most, lot=lot, columns=many):
                told = counts(kind, lot, columns=many)
                self.assertIs(type(told), tuple)
                self.assertEqual(told, oracle.count(kind, lot, many))

    def test_each_deed_of_base_2(self):
        for deed in oracle.all_deeds(2, 1):
            for most in (1, 2, 3):
                for lot in ([], [3], [2], [3, 5]):
                    self.compare(Kind(2, 1, [deed], most), lot, 4)

    def test_each_deed_of_two_rows(self):
        for deed in oracle.all_deeds(2, 2):
            self.compare(Kind(2, 2, [deed], 2), [3], 3)

    def test_each_deed_of_base_3(self):
        for deed in oracle.all_deeds(3, 1):
            self.compare(Kind(3, 1, [deed], 2), [4], 4)
            self.compare(Kind(3, 1, [deed], 3), [2], 3)

    def test_several_deeds(self):
        told = random.Random(15)
        for turn in range(40):
            base, rows, many = told.choice(((2, 1, 5), (2, 2, 3), (3, 1, 4), (4, 1, 3), (3, 2, 2), (10, 1, 2)))
            deeds = told.sample(oracle.all_deeds(base, rows), told.randint(2, 4))
            kind = Kind(base, rows, deeds, told.randint(1, 3))
            lot = told.sample((2, 3, 4, 5, 7, 9), told.randint(0, 2))
            try:
                counts(kind, lot, columns=1)
            except TooMany:
                self.assertRaises(TooMany, missed, kind, lot)
            else:
                self.compare(kind, lot, many)

    def test_base_10(self):
        for deeds in ([("off", 9)], [SWAP], [FORGET]):
            self.compare(Kind(10, 2, deeds, 1), [9], 1)
        self.compare(Kind(10, 1, [SWAP, OUT], 1), [9], 2)
        self.compare(Kind(10, 1, [TWICE], 1), [11], 3)

    def test_no_columns(self):
        for deeds in ([FORGET], [("off", 1), SWAP], [OUT, TWICE], [("copy", 0), AGAIN]):
            for lot in ([], [9], [2, 5]):
                self.assertEqual(counts(Kind(2, 1, deeds, 1), lot, columns=0), (0, 0, 0))
            self.assertEqual(counts(Kind(3, 1, deeds, 2), [2], columns=0), (0, 0, 0))

    def test_known_counts(self):
        # Each of the columns may have the slip; what is written differs by 9 more or by 1 less.
        kind = Kind(10, 2, [("off", 9)], 1)
        for many in (0, 1, 2, 5, 60, 200):
            every = many * 100 ** many
            self.assertEqual(counts(kind, [11], columns=many), (every, 0, 0))
            self.assertEqual(counts(kind, [9], columns=many), (every, 0, every // 10))
            self.assertEqual(counts(kind, [], columns=many), (every, 0, every))
            self.assertEqual(counts(kind, [9, 11], columns=many), (every, 0, 0))

    def test_two_slips(self):
        kind = Kind(10, 1, [("off", 5)], 2)
        for many in (0, 1, 2, 60, 200):
            every = (many + many * (many - 1) // 2) * 10 ** many
            self.assertEqual(counts(kind, [5], columns=many), (every, 0, every))
            self.assertEqual(counts(kind, [10], columns=many)[0], every)

    def test_exchanges(self):
        kind = Kind(10, 1, [SWAP], 1)
        for many in (1, 2, 3, 60, 200):
            every = (many - 1) * 10 ** many
            self.assertEqual(counts(kind, [9], columns=many), (every, every // 10, every - every // 10))
            self.assertEqual(counts(kind, [11], columns=many), (every, every // 10, 0))

    def test_200_columns_of_two_deeds(self):
        kind = Kind(2, 1, [AGAIN, OUT], 3)
        told = counts(kind, [3], columns=200)
        places = 200 * 2 + (200 * 199 // 2) * 4 + (200 * 199 * 198 // 6) * 8
        self.assertEqual(told[0], places * 2 ** 200)
        self.assertTrue(0 < told[1] < told[0])
        self.assertTrue(0 < told[2] < told[0] - told[1])

    def test_more_than_200_columns(self):
        self.assertEqual(counts(Kind(10, 2, [("off", 9)], 1), [9], columns=260)[2], 260 * 100 ** 260 // 10)

    def test_lots_without_divisors_miss_all_that_is_wrong(self):
        for deeds in ([OUT], [TWICE, SWAP], [("copy", 0)], [AGAIN, ("off", 1)]):
            for many in (1, 3, 30):
                told = counts(Kind(2, 1, deeds, 2), [], columns=many)
                self.assertEqual(told[0], told[1] + told[2])

    def test_the_order_of_the_lot_does_not_matter(self):
        kind = Kind(3, 1, [SWAP, AGAIN], 2)
        self.assertEqual(counts(kind, [2, 4], columns=9), counts(kind, [4, 2], columns=9))
        self.assertEqual(counts(kind, [2, 4], columns=9), counts(kind, [4], columns=9))

    def test_columns_is_passed_by_its_name(self):
        with self.assertRaises(TypeError):
            counts(Kind(2, 1, [OUT], 1), [], 3)
        self.assertEqual(str(inspect.signature(counts)), "(kind, lot, *, columns)")

    def test_the_same_call_returns_the_same(self):
        kind, lot = Kind(2, 1, [OUT, SWAP], 2), [5, 3]
        first = counts(kind, lot, columns=20)
        counts(kind, [3], columns=20)
        counts(Kind(2, 1, [OUT], 2), lot, columns=21)
        self.assertEqual(counts(kind, lot, columns=20), first)
        self.assertEqual((lot, kind.deeds), ([5, 3], [SWAP, OUT]))


if __name__ == "__main__":
    unittest.main()
