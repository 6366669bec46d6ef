"""Promises 2, 5 (d) and (e), and 14: parts of a lot that serve, and lots that are alike."""

import unittest
from itertools import combinations, permutations, product

import oracle
from sumslips.errors import InvalidLot, TooMany
from sumslips.finding import missed
from sumslips.kinds import Kind
from sumslips.lots import least_lots, parting
from sumslips.sheets import Sheet

FORGET, AGAIN, SWAP, OUT, TWICE = ("forget",), ("again",), ("swap",), ("out",), ("twice",)


def least_by_trying(kind, lot):
    """The least parts, by what each part misses."""
    least = []
    for many in range(len(lot) + 1):
        for places in combinations(range(len(lot)), many):
            if not any(set(part) <= set(places) for part in least):
                if missed(kind, [lot[place] for place in places]) is None:
                    least.append(places)
    return [[lot[place] for place in part] for part in least]


class LeastLotsTest(unittest.TestCase):
    def test_known_parts(self):
        kind = Kind(10, 2, [("off", 9)], 1)
        # 9 more or 1 less, at any place.
        self.assertEqual(least_lots(kind, [9]), [])
        self.assertEqual(least_lots(kind, [11]), [[11]])
        self.assertEqual(least_lots(kind, [9, 11]), [[11]])
        self.assertEqual(least_lots(kind, [11, 9, 7]), [[11], [7]])
        self.assertEqual(least_lots(kind, [7, 9, 11]), [[7], [11]])
        self.assertEqual(least_lots(kind, [9, 3]), [])

    def test_parts_of_several_divisors(self):
        # 3 more or 2 less, or 2 more or 3 less, at any place.
        kind = Kind(5, 1, [("off", 2), ("off", 3)], 1)
        self.assertEqual(least_lots(kind, [2, 3]), [[2, 3]])
        self.assertEqual(least_lots(kind, [3, 2]), [[3, 2]])
        self.assertEqual(least_lots(kind, [4, 2, 6, 3]), [[4], [6], [2, 3]])
        self.assertEqual(least_lots(kind, [3, 4, 2]), [[4], [3, 2]])
        self.assertEqual(least_lots(kind, [2, 9, 3, 8]), [[9], [8], [2, 3]])

    def test_parts_without_divisors(self):
        # One row of base 2 never gives a carry: nothing wrong is written.
        kind = Kind(2, 1, [FORGET], 3)
        for lot in ([], [2], [9, 11], [2, 3, 5, 7]):
            self.assertEqual(least_lots(kind, lot), [[]])

    def test_a_lot_without_divisors_that_does_not_serve(self):
        self.assertEqual(least_lots(Kind(10, 1, [SWAP], 1), []), [])

    def test_against_what_each_part_misses(self):
        for base, deeds, most in (
            (10, [SWAP], 1), (10, [("off", 1)], 2), (10, [("off", 3), ("off", 8)], 1), (10, [AGAIN], 3), (10, [OUT], 1),
            (10, [("read", 0, 4)], 1), (4, [("off", 2)], 2), (3, [SWAP, AGAIN], 1), (2, [("off", 1), AGAIN], 2),
            (7, [("off", 6), ("off", 2), ("off", 3)], 1), (2, [FORGET, AGAIN], 2),
        ):
            kind = Kind(base, 1, deeds, most)
            for lot in ([2, 3, 5], [4, 6, 9, 15], [11, 3, 7], [9, 2, 12, 5], [3], [2, 4, 8, 16, 3, 6]):
                with self.subTest(base=base, deeds=deeds, most=most, lot=lot):
                    try:
                        told = least_lots(kind, lot)
                    except TooMany:
                        self.assertRaises(TooMany, missed, kind, lot)
                        continue
                    self.assertEqual(told, least_by_trying(kind, lot))

    def test_the_order_of_the_lot(self):
        kind = Kind(7, 1, [("off", 6), ("off", 2), ("off", 3)], 1)
        for lot in permutations([2, 3, 4, 5]):
            told = least_lots(kind, list(lot))
            self.assertEqual(told, least_by_trying(kind, list(lot)))
            places = [[lot.index(r) for r in part] for part in told]
            self.assertEqual(places, sorted(places, key=lambda part: (len(part), part)))
            for part in places:
                self.assertEqual(part, sorted(part))

    def test_the_whole_lot(self):
        kind = Kind(5, 1, [("off", 2), ("off", 3)], 1)
        self.assertEqual(least_lots(kind, [2, 3]), [[2, 3]])
        self.assertEqual(least_lots(kind, [2, 5, 3]), [[2, 3]])
        self.assertEqual(least_lots(kind, [2, 5]), [])

    def test_many_divisors(self):
        kind = Kind(10, 1, [("off", 9)], 1)
        lot = [3, 9, 2, 5, 10, 4, 8, 6, 12, 18, 36]
        self.assertEqual(least_lots(kind, lot), least_by_trying(kind, lot))

    def test_a_changed_answer_has_no_effect(self):
        kind, lot = Kind(5, 1, [("off", 2), ("off", 3)], 1), [4, 2, 6, 3]
        told = least_lots(kind, lot)
        told[0].append(9)
        told.clear()
        self.assertEqual(lot, [4, 2, 6, 3])
        missed(Kind(2, 1, [OUT], 1), [3])
        told = least_lots(kind, lot)
        self.assertEqual(told, [[4], [6], [2, 3]])
        self.assertIs(type(told[0]), list)
        lot.append(5)
        self.assertEqual(told, [[4], [6], [2, 3]])


class PartingTest(unittest.TestCase):
    def compare(self, kind, lot, other, many):
        with self.subTest(deeds=kind.deeds, most=kind.most, lot=lot, other=other):
            told = parting(kind, lot, other)
            first = oracle.first(kind, many, lambda gap: oracle.sees(lot, gap) != oracle.sees(other, gap))
            if first is None:
                self.assertTrue(told is None or len(told[0]) > many)
            else:
                self.assertEqual((type(told), len(told)), (tuple, 2))
                self.assertEqual(told[0], Sheet(kind.base, kind.rows, first[0]))
                self.assertEqual(repr(told[1]), repr(first[1]))

    def test_against_trying(self):
        lots = [[], [2], [3], [5], [3, 2], [6], [4, 9]]
        for base, deeds, most, many in (
            (2, [AGAIN], 1, 5), (2, [("off", 1)], 2, 4), (2, [SWAP], 2, 5), (2, [OUT], 1, 5), (2, [TWICE, SWAP], 1, 4),
            (3, [("copy", 0)], 1, 3), (3, [FORGET, ("off", 2)], 1, 3), (10, [SWAP], 1, 2), (10, [("read", 0, 6)], 1, 2),
        ):
            for lot, other in product(lots, repeat=2):
                try:
                    parting(Kind(base, 1, deeds, most), lot, other)
                except TooMany:
                    self.assertRaises(TooMany, parting, Kind(base, 1, deeds, most), other, lot)
                else:
                    self.compare(Kind(base, 1, deeds, most), lot, other, many)

    def test_two_rows(self):
        for lot, other in (([2], [3]), ([3], [5]), ([], [3]), ([2, 3], [6])):
            self.compare(Kind(2, 2, [FORGET, AGAIN], 1), lot, other, 3)
            self.compare(Kind(3, 2, [("copy", 1)], 1), lot, other, 2)

    def test_known_pairs(self):
        kind = Kind(10, 2, [("off", 9)], 1)
        told = (Sheet(10, 2, [(0, 0)]), [(0, ("off", 9))])
        self.assertEqual(parting(kind, [9], [11]), told)
        self.assertEqual(parting(kind, [11], [9]), told)
        self.assertEqual(parting(kind, [], [11]), told)
        # 9 in place of 0 is seen by neither of these, 0 in place of 1 by 3 and 9.
        self.assertEqual(parting(kind, [9], []), (Sheet(10, 2, [(0, 1)]), [(0, ("off", 9))]))

    def test_lots_that_are_alike(self):
        kind = Kind(10, 2, [("off", 9)], 1)
        for lot, other in (
            ([], []), ([9], [9]), ([9], [3]), ([3], [9]), ([9, 3], [3]), ([11], [7]), ([9, 11], [11]),
            ([11, 9], [9, 11]),
            ([7], [3, 11]),
        ):
            with self.subTest(lot=lot, other=other):
                self.assertIsNone(parting(kind, lot, other))
        self.assertIsNone(parting(Kind(2, 1, [FORGET], 3), [], [2, 3]))
        self.assertIsNone(parting(Kind(10, 1, [SWAP], 1), [], [9]))
        self.assertIsNone(parting(Kind(10, 1, [SWAP], 1), [3], [9]))

    def test_a_harmless_result_parts_nothing(self):
        # An exchange of equal figures is seen by no lot.
        told = parting(Kind(10, 1, [SWAP], 1), [11], [])
        self.assertEqual(told, (Sheet(10, 1, [(0,), (1,)]), [(0, SWAP)]))

    def test_the_error_of_the_first_lot_comes_first(self):
        kind = Kind(10, 1, [SWAP], 1)
        for lot, other in (([9, 9], [1]), ([1], [9, 9])):
            texts = []
            for one, two in ((lot, [11]), ([11], other), (lot, other)):
                with self.assertRaises(InvalidLot) as caught:
                    parting(kind, one, two)
                texts.append(str(caught.exception))
            self.assertEqual(texts[2], texts[0])
            self.assertNotEqual(texts[2], texts[1])
        self.assertRaises(InvalidLot, parting, kind, [11], [1])
        # More than 3,000 standings can come for [465], but what is no lot is told before.
        self.assertRaises(InvalidLot, parting, Kind(8, 1, [SWAP], 1), [465], [0])
        self.assertRaises(TooMany, parting, Kind(8, 1, [SWAP], 1), [465], [3])

    def test_arguments_stay_as_they_were(self):
        kind, lot, other = Kind(10, 1, [SWAP], 1), [9, 11], [11, 3]
        self.assertIsNone(parting(kind, lot, other))
        self.assertEqual((lot, other), ([9, 11], [11, 3]))
        sheet, slips = parting(kind, [9], other)
        sheet[0] = (7,)
        slips.clear()
        self.assertEqual(parting(kind, [9], other), (Sheet(10, 1, [(0,), (1,)]), [(0, SWAP)]))


if __name__ == "__main__":
    unittest.main()
