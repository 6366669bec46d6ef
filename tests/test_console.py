"""Promises 2, 4 and 19: a console."""

import random
import unittest

from console_case import ConsoleCase
from sumslips.console import Console
from sumslips.counts import counts
from sumslips.errors import (
    InvalidColumn, InvalidKind, InvalidLot, NothingToUndo, NotPossible, NotReady, SlipError, TooMany,
)
from sumslips.finding import missed
from sumslips.kinds import Kind
from sumslips.ledger import Ledger
from sumslips.texts import show_sheet, show_slips


class LedgerTest(ConsoleCase):
    def test_put_and_back(self):
        self.run_all(self.console, "kind 10 2 2 forget, read 1 9, copy 0, swap", "lot 9 11", "begin")
        self.assertEqual(self.ledger(), ["10: - -", "-", "- 0"])
        self.run_all(self.console, "put 75 forget")
        self.assertEqual(self.ledger(), ["10: 7 5", "0 forget", "2 0"])
        self.run_all(self.console, "put 10")
        self.assertEqual(self.ledger(), ["10: 17 05", "0 forget", "12 0"])
        self.run_all(self.console, "put 99 read 1 9")
        self.assertEqual(self.ledger(), ["10: 917 905", "0 forget, 2 read 1 9", "712 1"])
        self.run_all(self.console, "back 0")
        self.assertEqual(self.ledger(), ["10: 917 905", "0 forget, 2 read 1 9", "712 1"])
        self.run_all(self.console, "back 1")
        self.assertEqual(self.ledger(), ["10: 17 05", "0 forget", "12 0"])
        self.run_all(self.console, "put 34 copy 0")
        self.assertEqual(self.ledger(), ["10: 317 405", "0 forget, 2 copy 0", "512 0"])
        self.run_all(self.console, "back 3")
        self.assertEqual(self.ledger(), ["10: - -", "-", "- 0"])

    def test_waits(self):
        self.run_all(self.console, "kind 10 1 1 swap", "lot 9", "begin", "put 1 swap")
        self.assertEqual(self.ledger(), ["10: 1", "0 swap", "waits"])
        self.run_all(self.console, "put 2")
        self.assertEqual(self.ledger(), ["10: 21", "0 swap", "12 0"])
        self.run_all(self.console, "back 1")
        self.assertEqual(self.ledger(), ["10: 1", "0 swap", "waits"])
        self.refuse(NotPossible, "put 2 swap")
        self.run_all(self.console, "back 1")
        self.assertEqual(self.ledger(), ["10: -", "-", "- 0"])

    def test_figures_and_carries(self):
        self.run_all(self.console, "kind 12 2 1 twice, out, again", "lot 5", "begin", "put bb", "put a0", "put 0b")
        self.assertEqual(self.ledger(), ["12: 0ab b0b", "-", "bba 0"])
        self.run_all(self.console, "put bb twice", "put bb")
        self.assertEqual(self.ledger(), ["12: bb0ab bbb0b", "3 twice", "bbabba 1"])
        self.run_all(self.console, "kind 10 1 3 again, out", "begin", "put 9 again", "put 9 again", "put 9 again")
        self.assertEqual(self.ledger(), ["10: 999", "0 again, 1 again, 2 again", "109 2"])
        self.run_all(self.console, "begin", "put 9 out")
        self.assertEqual(self.ledger(), ["10: 9", "0 out", "- 0"])
        self.run_all(self.console, "kind 5 4 3 again, out", "begin", "put 4444", "put 4444 out")
        self.assertEqual(self.ledger(), ["5: 44 44 44 44", "1 out", "1 3"])
        self.run_all(self.console, "kind 11 1 1 again", "begin", "put a again", "put 0")
        self.assertEqual(self.ledger(), ["11: 0a", "0 again", "1a 0"])

    def test_a_last_carry_that_is_no_figure(self):
        self.run_all(self.console, "kind 2 4 3 again", "lot 5", "begin")
        # The carries are 4 // 2 + 1, 7 // 2 + 1 and 8 // 2 + 1.
        for told in ("0 3", "10 4", "010 5"):
            self.run_all(self.console, "put 1111 again")
            self.tell("result", told)

    def test_every_deed_is_put(self):
        deeds = ("forget", "again", "off 3", "read 1 2", "copy 0", "swap", "out", "twice")
        self.run_all(self.console, "kind 10 2 1 " + ", ".join(deeds), "lot 9", "begin", "put 99")
        for deed in deeds:
            self.run_all(self.console, f"put 99 {deed}")
            self.tell("slips", f"1 {deed}")
            self.run_all(self.console, "back 1")
            self.tell("slips", "-")

    def test_no_columns(self):
        self.run_all(self.console, "kind 10 2 2 off 9, swap", "lot 9", "begin")
        for command in ("put 31", "put 77 swap", "put 12"):
            before = self.ledger()
            self.refuse(InvalidColumn, "put 7", "put 777", "put a0", "put 0b", "put 7 off 9", "put 777 swap",
                        "put a0 off 1", "put aa forget", "put b", "put " + "1" * 1900)
            self.assertEqual(self.ledger(), before)
            self.run_all(self.console, command)

    def test_deeds_that_are_not_possible(self):
        self.run_all(self.console, "kind 10 2 1 forget, copy 0, swap", "lot 9", "begin")
        self.refuse(NotPossible, "put 77 copy 0", "put 45 forget", "put 77 off 9", "put 77 off 11", "put 77 read 3 11",
                    "put 77 again", "put 77 copy 3")
        self.assertEqual(self.ledger(), ["10: - -", "-", "- 0"])
        self.run_all(self.console, "put 77 swap")
        self.refuse(NotPossible, "put 77 copy 0", "put 77 forget", "put 77 swap", "put 77 out")
        self.run_all(self.console, "put 77")
        self.refuse(NotPossible, "put 77 copy 0", "put 77 forget", "put 77 swap")
        self.assertEqual(self.ledger(), ["10: 77 77", "0 swap", "45 1"])

    def test_too_many_columns_back(self):
        self.run_all(self.console, "kind 10 1 1 swap", "lot 9", "begin", "back 0")
        self.refuse(NothingToUndo, "back 1", "back 2", "back 199", "back 200")
        self.run_all(self.console, "put 7", "put 5 swap")
        self.refuse(NothingToUndo, "back 3", "back 200")
        self.assertEqual(self.ledger(), ["10: 57", "1 swap", "waits"])
        self.run_all(self.console, "back 2")
        self.refuse(NothingToUndo, "back 1")

    def test_200_columns_back(self):
        self.run_all(self.console, "kind 10 1 1 swap", "lot 9", "begin")
        for _ in range(200):
            self.run_all(self.console, "put 1")
        self.tell("result", "1" * 200 + " 0")
        self.run_all(self.console, "back 200")
        self.assertEqual(self.ledger(), ["10: -", "-", "- 0"])


class OwnTest(ConsoleCase):
    """A ledger keeps its own kind and lot; missed and count take those that were set last."""

    def test_a_kind_and_a_lot_that_are_set_later(self):
        self.run_all(self.console, "kind 10 2 1 off 9", "lot 9", "begin", "put 75")
        self.run_all(self.console, "kind 2 1 3 out, again", "lot 3")
        self.assertEqual(self.ledger(), ["10: 7 5", "-", "2 1"])
        self.refuse(InvalidColumn, "put 1", "put 1 out")
        self.refuse(NotPossible, "put 11 out", "put 11 again")
        self.run_all(self.console, "put 10 off 9")
        self.refuse(NotPossible, "put 10 off 9")
        self.assertEqual(self.ledger(), ["10: 17 05", "1 off 9", "12 0"])
        kind = Kind(2, 1, [("out",), ("again",)], 3)
        sheet, slips = missed(kind, [3])
        self.tell("missed", f"{show_sheet(sheet)} | {show_slips(slips)}")
        self.tell("count 4", " ".join(str(number) for number in counts(kind, [3], columns=4)))
        self.run_all(self.console, "begin")
        self.assertEqual(self.ledger(), ["2: -", "-", "- 0"])
        self.refuse(InvalidColumn, "put 75", "put 2")
        self.run_all(self.console, "put 1 out", "put 1 out", "put 1 again")

    def test_only_one_of_them_is_set_later(self):
        self.run_all(self.console, "kind 10 2 1 off 9", "lot 9")
        self.tell("missed", "10: 0 0 | 0 off 9")
        self.run_all(self.console, "lot 11")
        self.tell("missed", "none")
        self.run_all(self.console, "kind 10 2 2 off 9")
        self.tell("missed", "10: 00 00 | 0 off 9, 1 off 9")
        self.run_all(self.console, "lot -")
        self.tell("missed", "10: 0 0 | 0 off 9")

    def test_a_kind_that_is_none_leaves_the_ledger(self):
        self.run_all(self.console, "kind 10 1 1 swap", "lot 9", "begin", "put 1 swap")
        self.refuse(InvalidKind, "kind 10 4 1 out")
        self.refuse(InvalidLot, "lot 1")
        self.assertEqual(self.ledger(), ["10: 1", "0 swap", "waits"])
        self.run_all(self.console, "put 2")
        self.tell("missed", "10: 10 | 0 swap")
        self.tell("count 2", "100 10 90")

    def test_begin_again(self):
        self.run_all(self.console, "kind 10 1 1 swap", "lot 9", "begin", "put 1 swap", "begin")
        self.assertEqual(self.ledger(), ["10: -", "-", "- 0"])

    def test_two_consoles_do_not_touch_each_other(self):
        other = Console()
        self.run_all(self.console, "kind 10 1 1 swap", "lot 9", "begin", "put 1 swap")
        with self.assertRaises(NotReady):
            other.execute("sheet")
        with self.assertRaises(NotReady):
            other.execute("missed")
        self.run_all(other, "kind 2 1 2 out", "lot 5", "begin", "put 1")
        self.assertEqual(self.ledger(), ["10: 1", "0 swap", "waits"])
        self.tell("missed", "10: 10 | 0 swap")
        self.assertEqual(other.execute("sheet"), "2: 1")
        self.assertNotEqual(other.execute("missed"), self.console.execute("missed"))


class FindingTest(ConsoleCase):
    def test_missed_and_count(self):
        self.run_all(self.console, "kind 10 2 1 off 9", "lot 9")
        self.tell("missed", "10: 0 0 | 0 off 9")
        self.tell("count 0", "0 0 0")
        self.tell("count 1", "100 0 10")
        self.tell("count 2", "20000 0 2000")
        self.run_all(self.console, "lot 11")
        self.tell("missed", "none")
        self.tell("count 1", "100 0 0")

    def test_numbers_of_any_size(self):
        self.run_all(self.console, "kind 10 2 1 off 9", "lot 9")
        many = 200 * 100 ** 200
        self.tell("count 200", f"{many} 0 {many // 10}")
        self.run_all(self.console, "kind 10 3 3 off 9, off 8", "lot 3")
        kind = Kind(10, 3, [("off", 8), ("off", 9)], 3)
        told = counts(kind, [3], columns=200)
        self.assertGreater(told[0], 10 ** 605)
        self.tell("count 200", " ".join(str(number) for number in told))

    def test_with_several_slips(self):
        self.run_all(self.console, "kind 10 1 2 off 1", "lot 11")
        self.tell("missed", "10: 00 | 0 off 1, 1 off 1")
        self.run_all(self.console, "kind 12 1 1 swap", "lot 11")
        self.tell("missed", "12: 10 | 0 swap")

    def test_too_many(self):
        self.run_all(self.console, "kind 8 1 1 swap", "lot 465", "begin", "put 7")
        self.refuse(TooMany, "missed", "count 0", "count 1", "count 200")
        self.assertEqual(self.ledger(), ["8: 7", "-", "7 0"])
        self.refuse(TooMany, "missed")
        self.run_all(self.console, "put 5 swap", "lot 7")
        self.assertEqual(self.ledger(), ["8: 57", "1 swap", "waits"])
        self.tell("missed", "8: 10 | 0 swap")

    def test_a_ledger_does_not_matter_for_missed_and_count(self):
        self.run_all(self.console, "kind 10 1 1 swap", "lot 9")
        told = [self.console.execute(command) for command in ("missed", "count 3")]
        self.run_all(self.console, "begin", "put 1 swap", "put 2")
        self.assertEqual([self.console.execute(command) for command in ("missed", "count 3")], told)


class AgainstModulesTest(ConsoleCase):
    """Many commands, against a kind, a lot and a ledger that the same is asked of directly."""

    def answer(self, command):
        try:
            return self.console.execute(command)
        except SlipError as error:
            return type(error)

    def right(self, ledger, column, deed):
        try:
            ledger.put(column, deed=deed)
        except SlipError as error:
            return type(error)
        return "ok"

    def test_a_ledger(self):
        told = random.Random(19)
        kinds = (
            (Kind(10, 2, [("forget",), ("off", 9), ("copy", 1), ("swap",), ("out",)], 3), [9, 11]),
            (Kind(12, 1, [("read", 0, 11), ("twice",), ("swap",)], 2), []),
            (Kind(2, 4, [("again",), ("copy", 3), ("out",)], 3), [7]),
        )
        figures = "0123456789ab"
        for turn in range(30):
            kind, lot = kinds[turn % 3]
            deeds = ", ".join(" ".join(str(item) for item in deed) for deed in kind.deeds)
            self.run_all(self.console, f"kind {kind.base} {kind.rows} {kind.most} {deeds}")
            self.run_all(self.console, "lot " + (" ".join(str(r) for r in lot) or "-"), "begin")
            ledger = Ledger(kind, lot)
            for _ in range(40):
                if told.random() < 0.2:
                    count = told.randint(0, 4)
                    if count > len(ledger):
                        self.assertIs(self.answer(f"back {count}"), NothingToUndo)
                    else:
                        ledger.back(count=count)
                        self.assertEqual(self.answer(f"back {count}"), "ok")
                else:
                    most = kind.base - 1 if told.random() < 0.9 else 11
                    column = tuple(told.randint(0, most) for _ in range(kind.rows))
                    deed = told.choice([None, None] + kind.deeds + [("off", 1)])
                    command = "put " + "".join(figures[figure] for figure in column)
                    if deed is not None:
                        command += " " + " ".join(str(item) for item in deed)
                    self.assertEqual(self.answer(command), self.right(ledger, column, deed))
                self.assertEqual(self.answer("sheet"), show_sheet(ledger.sheet))
                self.assertEqual(self.answer("slips"), show_slips(ledger.slips))
                if ledger.waits:
                    self.assertEqual(self.answer("result"), "waits")
                else:
                    written = ledger.result()
                    shown = "".join(figures[figure] for figure in reversed(written.figures)) or "-"
                    self.assertEqual(self.answer("result"), f"{shown} {written.last}")

    def test_missed_and_count(self):
        for kind, lot in (
            (Kind(2, 1, [("out",), ("swap",)], 2), [3]),
            (Kind(3, 2, [("forget",), ("read", 1, 2)], 2), [4, 5]),
            (Kind(12, 1, [("twice",), ("copy", 0)], 1), [13]),
            (Kind(11, 1, [("off", 10), ("again",)], 1), [10]),
            (Kind(10, 3, [("forget",)], 1), [7]),
        ):
            deeds = ", ".join(" ".join(str(item) for item in deed) for deed in kind.deeds)
            self.run_all(self.console, f"kind {kind.base} {kind.rows} {kind.most} {deeds}",
                         "lot " + " ".join(str(r) for r in lot))
            found = missed(kind, lot)
            self.tell("missed", "none" if found is None else f"{show_sheet(found[0])} | {show_slips(found[1])}")
            for many in (0, 1, 2, 7, 200):
                self.tell(f"count {many}", " ".join(str(number) for number in counts(kind, lot, columns=many)))


if __name__ == "__main__":
    unittest.main()
