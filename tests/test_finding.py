"""Promises 2, 3, 5 (c) and 13: the first missed sheet, closed lists, TooMany."""

import unittest
from itertools import product

import oracle
from sumslips import finding
from sumslips.counts import counts
from sumslips.errors import NotPossible, SlipError, TooMany
from sumslips.finding import closed_list, is_closed, missed
from sumslips.kinds import Kind
from sumslips.lots import least_lots, parting
from sumslips.sheets import Sheet
from sumslips.standings import beginning, behind, standing_of

FORGET, AGAIN, SWAP, OUT, TWICE = ("forget",), ("again",), ("swap",), ("out",), ("twice",)

# Just 3,000 standings can come; the first missed sheet has 7 columns.
FULL = Kind(6, 1, [("read", 0, 5)], 3), [44, 12, 16]
# Just 3,000 standings can come, here too.
FULL_TOO = Kind(2, 1, [("off", 1)], 2), [1488]
# 2,999 standings can come, and no result is missed.
NEARLY_FULL = Kind(10, 1, [SWAP], 1), [418]

# Just 3,001 standings can come.
ONE_MORE = (
    (Kind(7, 1, [("read", 0, 1), OUT], 2), [9, 15]),
    (Kind(2, 2, [FORGET, ("off", 1)], 2), [50]),
    (Kind(8, 1, [SWAP], 1), [465]),
    (Kind(10, 1, [("off", 7), ("read", 0, 9)], 1), [42, 41]),
)

# Many more than 3,000 standings can come.
FAR_MORE = (
    (Kind(2, 1, [OUT, TWICE], 3), [7, 11]),
    (Kind(10, 1, [("copy", 0), SWAP, ("off", 1)], 3), [59, 58]),
    (Kind(2, 1, [("off", 1)], 1), [10 ** 30 + 57]),
)


class MissedTest(unittest.TestCase):
    def check(self, kind, lot, columns, slips):
        with self.subTest(deeds=kind.deeds, lot=lot):
            told = missed(kind, lot)
            self.assertEqual((type(told), len(told)), (tuple, 2))
            self.assertEqual(told[0], Sheet(kind.base, kind.rows, columns))
            self.assertEqual(repr(told[1]), repr(slips))

    def test_the_examples_of_the_document(self):
        kind = Kind(10, 2, [("off", 9)], 1)
        self.check(kind, [9], [(0, 0)], [(0, ("off", 9))])
        self.assertIsNone(missed(kind, [11]))

    def test_known_checks(self):
        # An exchange of figures is not seen by 9, but it is by 11.
        self.check(Kind(10, 1, [SWAP], 1), [9], [(0,), (1,)], [(0, SWAP)])
        self.assertIsNone(missed(Kind(10, 1, [SWAP], 1), [11]))
        # Two figures that are 11 together.
        self.check(Kind(10, 1, [("off", 1)], 2), [11], [(0,), (0,)], [(0, ("off", 1)), (1, ("off", 1))])
        self.check(Kind(10, 2, [FORGET], 1), [2], [(1, 9)], [(0, FORGET)])
        # 110 less, if two carries side by side are forgotten.
        self.assertIsNone(missed(Kind(10, 2, [FORGET], 1), [11]))
        self.check(Kind(10, 2, [FORGET], 2), [11], [(1, 9), (1, 9)], [(0, FORGET), (1, FORGET)])
        self.check(Kind(10, 1, [OUT], 1), [3], [(3,)], [(0, OUT)])
        self.check(Kind(10, 1, [OUT], 1), [7], [(7,)], [(0, OUT)])
        # 6 in place of 61 is 55 less.
        self.check(Kind(10, 1, [OUT], 1), [11], [(1,), (6,)], [(0, OUT)])

    def test_every_wrong_result_is_missed_by_no_divisors(self):
        self.check(Kind(10, 2, [AGAIN], 3), [], [(0, 0)], [(0, AGAIN)])
        self.check(Kind(10, 2, [FORGET], 3), [], [(1, 9)], [(0, FORGET)])
        self.check(Kind(10, 2, [("copy", 1), ("copy", 0)], 1), [], [(0, 0), (0, 1)], [(1, ("copy", 1))])
        self.check(Kind(10, 1, [SWAP], 1), [], [(0,), (1,)], [(0, SWAP)])
        self.check(Kind(10, 1, [OUT], 1), [], [(1,)], [(0, OUT)])
        self.check(Kind(10, 1, [TWICE], 1), [], [(1,)], [(0, TWICE)])

    def compare(self, kind, lot, many):
        told = missed(kind, lot)
        first = oracle.first(kind, many, lambda gap: oracle.is_missed(lot, gap))
        with self.subTest(base=kind.base, rows=kind.rows, deeds=kind.deeds, most=kind.most, lot=lot):
            if first is not None:
                self.assertEqual((told[0].columns, told[1]), first)
            elif told is not None:
                self.assertGreater(len(told[0]), many)
                gap = oracle.add(kind.base, told[0].columns, told[1])[2] - told[0].value
                self.assertTrue(oracle.is_missed(lot, gap))
            if told is None:
                self.assertTrue(is_closed(kind, lot, closed_list(kind, lot)))
            else:
                self.assertIsNone(closed_list(kind, lot))

    def compare_all(self, base, rows, most, lots, many):
        deeds = oracle.all_deeds(base, rows)
        for i, j in product(range(len(deeds)), repeat=2):
            if i <= j:
                for lot in lots:
                    self.compare(Kind(base, rows, [deeds[i]] if i == j else [deeds[i], deeds[j]], most), lot, many)

    def test_kinds_of_base_2_with_one_row(self):
        self.compare_all(2, 1, 1, ([], [2], [3], [5], [7], [2, 3], [9], [4, 5]), 5)
        self.compare_all(2, 1, 2, ([3], [5], [7], [2, 3]), 4)
        self.compare_all(2, 1, 3, ([3], [2, 5]), 4)

    def test_kinds_of_base_2_with_two_rows(self):
        self.compare_all(2, 2, 1, ([3], [5], [2, 3]), 3)
        self.compare_all(2, 2, 2, ([3],), 2)

    def test_kinds_of_base_3(self):
        self.compare_all(3, 1, 1, ([2], [4], [3, 2], [5]), 4)
        self.compare_all(3, 1, 2, ([4],), 3)

    def test_kinds_of_base_10(self):
        for deeds in ([SWAP], [OUT], [TWICE], [("copy", 0)], [("read", 0, 2), OUT], [("off", 5), TWICE], [AGAIN, SWAP]):
            for most in (1, 2):
                for lot in ([9], [3], [5], [11]):
                    self.compare(Kind(10, 1, deeds, most), lot, 2)

    def test_longer_sheets(self):
        for kind, lot, many in (
            (Kind(2, 1, [("off", 1)], 2), [9], 6),
            (Kind(2, 1, [("off", 1)], 2), [17], 9),
            (Kind(2, 1, [AGAIN, OUT], 2), [9], 6),
            (Kind(2, 1, [OUT, SWAP], 2), [5, 2], 6),
            (Kind(2, 1, [("copy", 0)], 2), [11], 8),
        ):
            first = oracle.first(kind, many, lambda gap: oracle.is_missed(lot, gap))
            self.assertIsNotNone(first)
            self.check(kind, lot, *first)

    def test_the_slips_are_the_first_ones(self):
        # With 2 as the divisor a wrong carry is missed, by whatever it comes.
        self.check(Kind(10, 1, [AGAIN, TWICE], 2), [2], [(0,)], [(0, AGAIN)])
        self.check(Kind(10, 1, [TWICE, ("off", 2), ("off", 4)], 2), [2], [(0,)], [(0, ("off", 2))])
        self.check(Kind(10, 1, [("off", 4), ("read", 0, 2)], 2), [2], [(0,)], [(0, ("off", 4))])
        # With all deeds the first column is enough.
        deeds = [TWICE, OUT, SWAP, ("copy", 0), ("read", 0, 1), ("off", 1), AGAIN]
        self.check(Kind(2, 1, deeds, 1), [2], [(0,)], [(0, AGAIN)])
        # 90 in place of 00.
        self.check(Kind(10, 1, [("off", 1), ("off", 9)], 3), [5, 3], [(0,), (0,)], [(1, ("off", 9))])

    def test_a_long_sheet(self):
        # 4 ** 23 is the first power of 4 that leaves 1 when it is divided by 47, and none leaves 46.
        self.check(Kind(4, 1, [("off", 2)], 2), [47], [(0,)] * 23 + [(2,)], [(0, ("off", 2)), (23, ("off", 2))])
        for columns in (1, 12, 23):
            self.assertEqual(counts(Kind(4, 1, [("off", 2)], 2), [47], columns=columns)[2], 0)

    def test_a_changed_answer_has_no_effect(self):
        kind, lot = Kind(10, 1, [SWAP], 1), [9, 3]
        sheet, slips = missed(kind, lot)
        sheet[0] = (9,)
        slips.append((1, SWAP))
        self.assertEqual(missed(kind, lot), (Sheet(10, 1, [(0,), (1,)]), [(0, SWAP)]))
        self.assertEqual((lot, kind.deeds), ([9, 3], [SWAP]))


class ClosedListTest(unittest.TestCase):
    KINDS = (
        (Kind(10, 2, [("off", 9)], 1), [11]),
        (Kind(10, 1, [SWAP], 1), [11]),
        (Kind(2, 2, [AGAIN, FORGET], 1), [3]),
        (Kind(3, 1, [("copy", 0)], 1), [7]),
        (Kind(2, 1, [("off", 1)], 1), [7, 5]),
        (Kind(2, 1, [("copy", 0), SWAP], 1), [3]),
        (Kind(3, 1, [("read", 0, 1), ("off", 2)], 1), [4, 7]),
    )

    def test_all_standings_that_can_come(self):
        for kind, lot in self.KINDS:
            with self.subTest(deeds=kind.deeds, lot=lot):
                told = closed_list(kind, lot)
                self.assertIs(type(told), list)
                self.assertEqual(set(told), set(oracle.standings(kind, lot, 3000)))
                self.assertEqual(told.count(beginning(kind, lot)), 1)
                for standing in told:
                    self.assertFalse(standing[1] is None and standing[5] != 0
                                     and all(rest[0] == 0 for rest in standing[6]))

    def test_it_is_closed_by_the_words_of_the_document(self):
        for kind, lot in self.KINDS:
            told = closed_list(kind, lot)
            for standing in told:
                for column in oracle.all_columns(kind.base, kind.rows)[::3]:
                    for deed in [None] + kind.deeds:
                        try:
                            self.assertIn(behind(kind, lot, standing, column, deed), told)
                        except NotPossible:
                            pass

    def test_is_closed(self):
        for kind, lot in self.KINDS:
            with self.subTest(deeds=kind.deeds, lot=lot):
                told = closed_list(kind, lot)
                self.assertIs(is_closed(kind, lot, told), True)
                self.assertIs(is_closed(kind, lot, told[::-1]), True)
                self.assertIs(is_closed(kind, lot, told[1:] + told[:1]), True)
                self.assertIs(is_closed(kind, lot, told + told), True)
                self.assertIs(is_closed(kind, lot, told + [told[-1], told[0], told[-1]]), True)

    def test_one_left_out(self):
        for kind, lot in self.KINDS:
            told = closed_list(kind, lot)
            for at in range(0, len(told), max(1, len(told) // 12)):
                less = told[:at] + told[at + 1:]
                self.assertIs(is_closed(kind, lot, less), False)
                self.assertIs(is_closed(kind, lot, less + less), False)
                self.assertEqual(len(less), len(told) - 1)
            self.assertIs(is_closed(kind, lot, told[1:]), False)
            self.assertIs(is_closed(kind, lot, told[:-1]), False)

    def test_short_lists(self):
        for kind, lot in self.KINDS:
            self.assertIs(is_closed(kind, lot, []), False)
            self.assertIs(is_closed(kind, lot, [beginning(kind, lot)]), False)
            self.assertIs(is_closed(kind, lot, [beginning(kind, lot)] * 3000), False)

    def test_a_list_with_a_missed_end(self):
        off = Kind(10, 2, [("off", 9)], 1)
        for kind, lot in ((Kind(10, 1, [SWAP], 1), [9]), (Kind(2, 1, [OUT], 1), []), (off, [9])):
            with self.subTest(deeds=kind.deeds, lot=lot):
                self.assertIsNone(closed_list(kind, lot))
                told = list(oracle.standings(kind, lot, 3000))
                sheet, slips = missed(kind, lot)
                end = standing_of(kind, lot, sheet, slips)
                self.assertIn(end, told)
                self.assertIs(is_closed(kind, lot, told), False)
                self.assertIs(is_closed(kind, lot, [standing for standing in told if standing != end]), False)
                self.assertIs(is_closed(kind, lot, []), False)

    def test_a_changed_answer_has_no_effect(self):
        kind, lot = self.KINDS[0]
        told = closed_list(kind, lot)
        first = list(told)
        given = told[::-1]
        self.assertIs(is_closed(kind, lot, given), True)
        self.assertEqual(given, first[::-1])
        told.clear()
        missed(Kind(2, 1, [OUT], 1), [3])
        self.assertEqual(closed_list(kind, lot), first)
        self.assertEqual(closed_list(Kind(10, 2, [("off", 9)], 1), [11]), first)


def calls_of(kind, lot):
    """Every call that lists TooMany, with which more than 3,000 standings can come for this kind and this lot."""
    start = beginning(kind, lot)
    return {
        "missed": lambda: missed(kind, lot),
        "closed_list": lambda: closed_list(kind, lot),
        "is_closed": lambda: is_closed(kind, lot, [start]),
        "is_closed, no list": lambda: is_closed(kind, lot, []),
        "least_lots": lambda: least_lots(kind, lot),
        "parting, no other": lambda: parting(kind, lot, []),
        "parting, no lot": lambda: parting(kind, [], lot),
        "parting, the same": lambda: parting(kind, lot, lot),
        "parting, turned": lambda: parting(kind, lot, lot[::-1]),
        "parting, both": lambda: parting(kind, lot[:1], lot[1:]),
        "counts, no columns": lambda: counts(kind, lot, columns=0),
        "counts": lambda: counts(kind, lot, columns=2),
    }


class TooManyTest(unittest.TestCase):
    def test_more_than_3000_can_come(self):
        for kind, lot in ONE_MORE + FAR_MORE:
            for name, call in calls_of(kind, lot).items():
                with self.subTest(name=name, deeds=kind.deeds, lot=lot):
                    with self.assertRaises(TooMany) as caught:
                        call()
                    self.assertIs(type(caught.exception), TooMany)
                    self.assertIsInstance(caught.exception, SlipError)
                    self.assertIsInstance(caught.exception, ValueError)

    def test_how_many_can_come(self):
        for kind, lot in (FULL, FULL_TOO):
            self.assertEqual(len(oracle.standings(kind, lot, 3000)), 3000)
        self.assertEqual(len(oracle.standings(*NEARLY_FULL, 3000)), 2999)
        for kind, lot in ONE_MORE[2:]:
            self.assertEqual(len(oracle.standings(kind, lot, 3001)), 3001)

    def test_also_where_the_answer_could_be_known(self):
        kind, lot = ONE_MORE[0]
        first = oracle.first(kind, 2, lambda gap: oracle.is_missed(lot, gap))
        self.assertEqual(first, ([(3,), (6,)], [(0, OUT), (1, ("read", 0, 1))]))
        for call in calls_of(kind, lot).values():
            self.assertRaises(TooMany, call)

    def test_up_to_3000_it_is_not_raised(self):
        for kind, lot in (FULL, FULL_TOO, NEARLY_FULL):
            for name, call in calls_of(kind, lot).items():
                with self.subTest(name=name, deeds=kind.deeds, lot=lot):
                    call()
        self.assertEqual(len(closed_list(*NEARLY_FULL)), 2999)
        self.assertIs(is_closed(*NEARLY_FULL, closed_list(*NEARLY_FULL)), True)
        self.assertIs(is_closed(*NEARLY_FULL, closed_list(*NEARLY_FULL)[:-1]), False)
        self.assertIsNone(closed_list(*FULL))
        self.assertEqual(least_lots(*FULL), [])
        told = missed(*FULL)
        self.assertEqual(told[0].columns, [(0,), (0,), (0,), (0,), (1,), (0,), (0,)])
        self.assertEqual(told[1], [(at, ("read", 0, 5)) for at in (4, 5, 6)])

    def test_it_is_raised_for_both_lots_together(self):
        kind = Kind(10, 1, [("off", 7), ("read", 0, 9)], 1)
        for lot, other in (([42], [41]), ([41], [42]), ([41, 42], [42]), ([42], [41, 42])):
            missed(kind, [42])
            missed(kind, [41])
            self.assertRaises(TooMany, parting, kind, lot, other)

    def test_the_limit_is_the_one_of_the_document(self):
        kind, lot = ONE_MORE[2]
        self.assertRaises(TooMany, finding.missed, kind, lot)
        # Standings themselves are not limited.
        self.assertEqual(beginning(kind, lot)[0], 1)
        self.assertEqual(behind(kind, lot, beginning(kind, lot), (5,), SWAP)[1], 5)


if __name__ == "__main__":
    unittest.main()
