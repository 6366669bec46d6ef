"""Promises 2, 4 and 9: kinds."""

import unittest
from itertools import product

from oracle import all_deeds
from sumslips.errors import InvalidKind, NotAlike, SlipError
from sumslips.kinds import Kind
from sumslips.sheets import Sheet

NO_INTEGERS = (True, False, None, 2.0, 1.5, "2", b"2", [2], (2,), {2: 2}, object())

NO_DEEDS = (
    None, 0, 1, True, "forget", b"forget", ["forget"], {"forget": 1}, {"forget"}, (), ("",), ("nothing",), ("Forget",),
    (None,), (0,), (["forget"],), (("forget",),), ("forget", 0), ("again", 1), ("swap", 0), ("out", None), ("twice", 2),
    ("off",), ("off", 0), ("off", 10), ("off", 100), ("off", -1), ("off", True), ("off", 1.0), ("off", "1"),
    ("off", [1]), ("off", {}), ("off", 1, 1), ["off", 1], (b"off", 1),
    ("read",), ("read", 0), ("read", 0, 0), ("read", 0, 10), ("read", 2, 1), ("read", -1, 1), ("read", True, 1),
    ("read", False, 1), ("read", 0, True), ("read", 0.0, 1), ("read", 0, 1.0), ("read", 0, 1, 1), ("read", "0", 1),
    ("copy",), ("copy", 2), ("copy", -1), ("copy", True), ("copy", False), ("copy", 0.0), ("copy", 0, 1), ("copy", [0]),
)


class KindTest(unittest.TestCase):
    def test_properties(self):
        kind = Kind(10, 2, [("off", 9)], 1)
        self.assertEqual((kind.base, kind.rows, kind.deeds, kind.most), (10, 2, [("off", 9)], 1))
        self.assertIs(type(kind.deeds), list)
        self.assertIs(type(kind.deeds[0]), tuple)

    def test_deeds_are_kept_in_their_order(self):
        order = [("forget",), ("again",), ("off", 1), ("off", 2), ("read", 0, 2), ("read", 1, 1), ("copy", 0)]
        for turn in range(7):
            self.assertEqual(Kind(10, 2, order[turn:] + order[:turn], 2).deeds, order)
        self.assertEqual(Kind(10, 2, order[::-1], 2).deeds, order)
        ends = [("off", 9), ("read", 1, 9), ("copy", 0), ("copy", 1), ("swap",), ("out",), ("twice",)]
        for turn in range(7):
            self.assertEqual(Kind(10, 2, ends[turn:] + ends[:turn], 2).deeds, ends)
        self.assertEqual(Kind(10, 2, ends[::-1], 2).deeds, ends)

    def test_numbers_are_ordered_as_numbers(self):
        self.assertEqual(Kind(12, 1, [("off", 11), ("off", 2), ("off", 10)], 1).deeds,
                         [("off", 2), ("off", 10), ("off", 11)])
        self.assertEqual(Kind(12, 2, [("read", 1, 2), ("read", 0, 10), ("read", 1, 1), ("read", 0, 9)], 1).deeds,
                         [("read", 0, 9), ("read", 0, 10), ("read", 1, 1), ("read", 1, 2)])

    def test_each_two_deeds_are_kept_in_their_order(self):
        for base, rows in ((3, 2), (2, 4)):
            order = all_deeds(base, rows)
            for i, j in product(range(len(order)), repeat=2):
                if i < j:
                    self.assertEqual(Kind(base, rows, [order[j], order[i]], 1).deeds, [order[i], order[j]])
                    self.assertEqual(Kind(base, rows, [order[i], order[j]], 1).deeds, [order[i], order[j]])

    def test_every_deed_makes_a_kind(self):
        for base, rows in ((2, 1), (2, 4), (5, 4), (10, 3), (12, 2), (12, 1)):
            for deed in all_deeds(base, rows):
                for most in (1, 2, 3):
                    kind = Kind(base, rows, [deed], most)
                    self.assertEqual((kind.base, kind.rows, kind.deeds, kind.most), (base, rows, [deed], most))

    def test_eight_deeds(self):
        deeds = all_deeds(10, 1)[:8]
        self.assertEqual(Kind(10, 1, deeds, 3).deeds, deeds)

    def test_copies(self):
        deeds = [("swap",), ("out",)]
        one = Kind(10, 1, deeds, 1)
        other = Kind(10, 1, deeds, 1)
        deeds[0] = ("twice",)
        deeds.append(("again",))
        self.assertEqual(one.deeds, [("swap",), ("out",)])
        told = one.deeds
        told.append(("again",))
        told[0] = ("twice",)
        self.assertEqual(one.deeds, [("swap",), ("out",)])
        self.assertEqual(other.deeds, [("swap",), ("out",)])
        self.assertFalse(("again",) in one)
        unsorted = [("twice",), ("forget",)]
        Kind(10, 1, unsorted, 1)
        self.assertEqual(unsorted, [("twice",), ("forget",)])


class NoKindTest(unittest.TestCase):
    def refuse(self, base, rows, deeds, most):
        with self.subTest(base=base, rows=rows, deeds=deeds, most=most):
            with self.assertRaises(InvalidKind) as caught:
                Kind(base, rows, deeds, most)
            self.assertIs(type(caught.exception), InvalidKind)
            self.assertIsInstance(caught.exception, SlipError)
            self.assertIsInstance(caught.exception, ValueError)

    def test_base(self):
        for base in (1, 0, -1, -10, 13, 14, 1000, 10 ** 30) + NO_INTEGERS:
            self.refuse(base, 1, [("swap",)], 1)

    def test_rows(self):
        for rows in (0, -1, 5, 6, 1000, 10 ** 30) + NO_INTEGERS:
            self.refuse(2, rows, [("swap",)], 1)

    def test_base_to_the_rows(self):
        for base, rows in product(range(2, 13), range(1, 5)):
            if base ** rows > 1000:
                self.refuse(base, rows, [("swap",)], 1)
            else:
                self.assertEqual(Kind(base, rows, [("swap",)], 1).base, base)
        self.assertEqual(Kind(10, 3, [("swap",)], 1).rows, 3)

    def test_deeds_that_are_no_list(self):
        for deeds in (None, 0, 1, (), (("swap",),), ("swap",), "swap", {}, {("swap",): 1}, {("swap",)}, True):
            self.refuse(10, 2, deeds, 1)

    def test_how_many_deeds(self):
        deeds = all_deeds(10, 2)
        self.refuse(10, 2, [], 1)
        self.refuse(10, 2, deeds[:9], 1)
        self.refuse(10, 2, deeds, 1)

    def test_deeds_twice(self):
        for deed in all_deeds(3, 2):
            self.refuse(3, 2, [deed, deed], 1)
            other = ("off", 1) if deed != ("off", 1) else ("off", 2)
            self.refuse(3, 2, [deed, other, deed], 1)
            self.refuse(3, 2, [deed] * 9, 1)

    def test_what_is_no_deed(self):
        for wrong in NO_DEEDS:
            self.refuse(10, 2, [wrong], 1)
            self.refuse(10, 2, [("swap",), wrong], 1)
            self.refuse(10, 2, [wrong, ("swap",), ("off", 1)], 1)

    def test_deeds_of_other_bases_and_rows(self):
        for base, rows in ((2, 1), (3, 2), (2, 4), (12, 2)):
            for wrong in (("off", base), ("read", rows - 1, base), ("read", rows, 1), ("copy", rows)):
                self.refuse(base, rows, [wrong], 1)

    def test_most(self):
        for most in (0, -1, 4, 5, 1000, 10 ** 30) + NO_INTEGERS + (1.0, "1"):
            self.refuse(10, 2, [("swap",)], most)

    def test_a_refused_list_is_not_changed(self):
        deeds = [("twice",), ("forget",), ("nothing",)]
        self.refuse(10, 2, deeds, 1)
        self.assertEqual(deeds, [("twice",), ("forget",), ("nothing",)])


class ContainsTest(unittest.TestCase):
    def test_deeds(self):
        kind = Kind(10, 2, [("off", 1), ("read", 1, 3), ("copy", 0), ("swap",)], 1)
        for deed in all_deeds(10, 2):
            self.assertIs(deed in kind, deed in [("off", 1), ("read", 1, 3), ("copy", 0), ("swap",)])
            self.assertIs(deed not in kind, deed not in kind.deeds)

    def test_other_values(self):
        deeds = [("forget",), ("off", 1), ("off", 9), ("read", 0, 1), ("read", 1, 1), ("copy", 0), ("copy", 1)]
        kind = Kind(10, 2, deeds, 1)
        for deed in deeds:
            self.assertIs(deed in kind, True)
        for wrong in NO_DEEDS + (kind, Kind, object(), [("forget",)], {}, [], ([],), (0, ("forget",))):
            with self.subTest(wrong):
                self.assertIs(wrong in kind, False)


class JoinTest(unittest.TestCase):
    def check(self, kind, base, rows, deeds, most):
        self.assertIs(type(kind), Kind)
        self.assertEqual((kind.base, kind.rows, kind.deeds, kind.most), (base, rows, deeds, most))

    def test_or(self):
        one = Kind(10, 2, [("swap",), ("off", 9)], 1)
        other = Kind(10, 2, [("forget",), ("swap",), ("off", 2)], 3)
        deeds = [("forget",), ("off", 2), ("off", 9), ("swap",)]
        self.check(one | other, 10, 2, deeds, 3)
        self.check(other | one, 10, 2, deeds, 3)
        self.check(one | one, 10, 2, one.deeds, 1)
        self.check(one, 10, 2, [("off", 9), ("swap",)], 1)
        self.check(other, 10, 2, [("forget",), ("off", 2), ("swap",)], 3)

    def test_and(self):
        one = Kind(10, 2, [("twice",), ("swap",), ("off", 9)], 2)
        other = Kind(10, 2, [("forget",), ("swap",), ("off", 9)], 3)
        self.check(one & other, 10, 2, [("off", 9), ("swap",)], 2)
        self.check(other & one, 10, 2, [("off", 9), ("swap",)], 2)
        self.check(one & one, 10, 2, one.deeds, 2)
        self.check(one, 10, 2, [("off", 9), ("swap",), ("twice",)], 2)

    def test_how_many_slips(self):
        for one, other in product((1, 2, 3), repeat=2):
            left, right = Kind(2, 1, [("swap",)], one), Kind(2, 1, [("swap",)], other)
            self.assertEqual((left | right).most, max(one, other))
            self.assertEqual((left & right).most, min(one, other))

    def test_results_share_nothing(self):
        one = Kind(10, 2, [("swap",)], 1)
        both = one | Kind(10, 2, [("out",)], 1)
        both.deeds.append(("twice",))
        self.assertEqual(both.deeds, [("swap",), ("out",)])
        self.assertEqual(one.deeds, [("swap",)])

    def refuse(self, operation, one, other):
        before = one.deeds, other.deeds, one.most, other.most
        for left, right in ((one, other), (other, one)):
            with self.assertRaises(NotAlike) as caught:
                operation(left, right)
            self.assertIs(type(caught.exception), NotAlike)
        self.assertEqual((one.deeds, other.deeds, one.most, other.most), before)

    def test_other_bases_and_rows(self):
        for one, other in (
            (Kind(10, 2, [("swap",)], 1), Kind(9, 2, [("swap",)], 1)),
            (Kind(10, 2, [("swap",)], 1), Kind(10, 1, [("swap",)], 1)),
            (Kind(10, 2, [("off", 9)], 1), Kind(11, 2, [("off", 10)], 1)),
            (Kind(2, 3, [("copy", 2), ("swap",)], 1), Kind(2, 1, [("swap",)], 1)),
        ):
            self.refuse(lambda left, right: left | right, one, other)
            self.refuse(lambda left, right: left & right, one, other)

    def test_no_deed_in_common(self):
        self.refuse(lambda left, right: left & right, Kind(10, 1, [("swap",)], 1), Kind(10, 1, [("out",)], 1))
        self.refuse(lambda left, right: left & right, Kind(10, 1, [("off", 1)], 1), Kind(10, 1, [("off", 2)], 1))

    def test_more_than_eight_deeds(self):
        deeds = all_deeds(10, 1)
        for one, other in ((deeds[:8], deeds[8:9]), (deeds[:5], deeds[5:9]), (deeds[:8], deeds[8:16])):
            self.refuse(lambda left, right: left | right, Kind(10, 1, one, 1), Kind(10, 1, other, 1))
        self.assertEqual((Kind(10, 1, deeds[:4], 1) | Kind(10, 1, deeds[4:8], 1)).deeds, deeds[:8])
        self.assertEqual((Kind(10, 1, deeds[:6], 1) | Kind(10, 1, deeds[2:8], 1)).deeds, deeds[:8])
        self.assertEqual((Kind(10, 1, deeds[:8], 1) & Kind(10, 1, deeds[2:10], 1)).deeds, deeds[2:8])


class CompareTest(unittest.TestCase):
    def test_within(self):
        one = Kind(10, 2, [("swap",), ("off", 9)], 2)
        self.assertIs(one.within(one), True)
        for deeds, most, told in (
            ([("off", 9), ("swap",)], 2, True),
            ([("off", 9), ("swap",)], 3, True),
            ([("off", 9), ("swap",), ("out",)], 2, True),
            ([("off", 9), ("swap",), ("out",)], 3, True),
            ([("off", 9), ("swap",)], 1, False),
            ([("off", 9), ("swap",), ("out",)], 1, False),
            ([("swap",)], 2, False),
            ([("off", 8), ("swap",)], 3, False),
            ([("out",), ("twice",), ("forget",)], 3, False),
        ):
            with self.subTest(deeds=deeds, most=most):
                self.assertIs(one.within(Kind(10, 2, deeds, most)), told)
        self.assertIs(one.within(Kind(11, 2, [("off", 9), ("swap",)], 3)), False)
        self.assertIs(one.within(Kind(10, 1, [("off", 9), ("swap",)], 3)), False)

    def test_within_of_joined_kinds(self):
        one = Kind(10, 2, [("swap",), ("off", 9)], 2)
        other = Kind(10, 2, [("swap",), ("out",)], 3)
        self.assertIs(one.within(one | other), True)
        self.assertIs(other.within(one | other), True)
        self.assertIs((one & other).within(one), True)
        self.assertIs((one & other).within(other), True)
        self.assertIs((one | other).within(one), False)
        self.assertIs(one.within(one & other), False)

    def test_equal(self):
        kind = Kind(10, 2, [("swap",), ("off", 9)], 2)
        for same in (Kind(10, 2, [("swap",), ("off", 9)], 2), Kind(10, 2, [("off", 9), ("swap",)], 2), kind | kind):
            self.assertIs(kind == same, True)
            self.assertIs(kind != same, False)
        for other in (
            Kind(11, 2, [("swap",), ("off", 9)], 2),
            Kind(10, 1, [("swap",), ("off", 9)], 2),
            Kind(10, 2, [("swap",), ("off", 8)], 2),
            Kind(10, 2, [("swap",)], 2),
            Kind(10, 2, [("swap",), ("off", 9), ("out",)], 2),
            Kind(10, 2, [("swap",), ("off", 9)], 1),
        ):
            self.assertIs(kind == other, False)
            self.assertIs(kind != other, True)

    def test_equal_to_other_values(self):
        kind = Kind(10, 2, [("swap",)], 2)
        for other in (None, 10, True, "swap", [("swap",)], (10, 2, [("swap",)], 2), {}, object(), Kind,
                      Sheet(10, 2, [])):
            self.assertIs(kind == other, False)
            self.assertIs(kind != other, True)
            self.assertIs(other == kind, False)


if __name__ == "__main__":
    unittest.main()
