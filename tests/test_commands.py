"""Promises 4 and 19: the forms of commands, and what must be there for them."""

import unittest

from console_case import ConsoleCase
from sumslips.console import Console
from sumslips.counts import counts
from sumslips.errors import InvalidCommand, InvalidKind, InvalidLot, NotReady
from sumslips.kinds import Kind

# Values and strings that do not have the form of a command, whatever is there.
NO_COMMANDS = (
    None, True, False, 0, 7, 1.5, b"begin", b"", [], ["begin"], ["put", "7"], (), ("begin",), {}, {"begin"}, object(),
    Console, "", " ", "  ", "-", "ok", "begin ", " begin", "begin  ", "begin begin", "begin 1", "Begin", "BEGIN",
    "begin\n", "\tbegin", "beginn", "begi", "start", "help", "quit", "waits", "standing", "next_missed", "missed 1",
    "missed ", "missed 9", "next missed", "sheet ", "sheet 1", "sheets", "slips -", "slip", "result 0", "results",
    # kind BASE ROWS MOST DEEDS
    "kind", "kind ", "kind 10", "kind 10 2", "kind 10 2 1", "kind 10 2 1 ", "kind 10 2 1 -", "kind  10 2 1 swap",
    "kind 10  2 1 swap", "kind 10 2 1  swap", "kind 10 2 1 swap ", " kind 10 2 1 swap", "kind 10 2 1 swap,",
    "kind 10 2 1 swap, ", "kind 10 2 1 , swap", "kind 10 2 1 swap,out", "kind 10 2 1 swap,  out",
    "kind 10 2 1 swap , out", "kind 10 2 1 swap out", "kind 10 2 1 swap; out", "kind 10 2 1 Swap", "kind 10 2 1 swaps",
    "kind 10 2 1 none", "kind 10 2 1 off", "kind 10 2 1 off 0", "kind 10 2 1 off 12", "kind 10 2 1 off 01",
    "kind 10 2 1 off -1", "kind 10 2 1 off a", "kind 10 2 1 off 1 1", "kind 10 2 1 off  1", "kind 10 2 1 read 0",
    "kind 10 2 1 read 4 1", "kind 10 2 1 read 0 0", "kind 10 2 1 read 0 12", "kind 10 2 1 copy 4", "kind 10 2 1 copy",
    "kind 10 2 1 swap 1", "kind 10 2 1 forget 0", "kind 10 2 1 0 swap", "kind 10 2 1 swap, swap, off 12",
    "kind 010 2 1 swap", "kind 10 02 1 swap", "kind 10 2 01 swap", "kind -10 2 1 swap", "kind +10 2 1 swap",
    "kind 10 2 -1 swap", "kind a 2 1 swap", "kind 10 b 1 swap", "kind 10 2 x swap", "kind 10.0 2 1 swap",
    "kind 1_0 2 1 swap", "kind 10, 2, 1 swap", "kind 10: 2 1 swap", "kind 10 2 swap", "kind swap 10 2 1",
    "kind 00 2 1 swap", "Kind 10 2 1 swap", "kind \u0661 2 1 swap", "kind 10 2 1\u00a0swap",
    # lot LOT
    "lot", "lot ", "lot  ", "lot  9", "lot 9 ", "lot 9  11", "lot 09", "lot 00", "lot 9 011", "lot -9", "lot +9",
    "lot 9.0", "lot a", "lot 9a", "lot 9,11", "lot 9, 11", "lot [9]", "lot - 9", "lot 9 -", "lot --", "lot - -",
    "lot none", "lot 1_1", "lot \u0669", "lots 9", "Lot 9", "lot 9\n",
    # put FIGURES, put FIGURES DEED
    "put", "put ", "put  7", "put 7 ", "put 7  swap", "put 7 swap ", "put -", "put A", "put c", "put x", "put 7 5",
    "put 7,5", "put 75,", "put (7,5)", "put 7 -", "put 7 none", "put 7 Swap", "put 7 swap out", "put 7 swap, out",
    "put 7 off", "put 7 off 0", "put 7 off 12", "put 7 off 01", "put 7 off 1 1", "put 7 read 4 1", "put 7 read 0 12",
    "put 7 copy 4", "put 7 copy", "put 7 0 swap", "put swap 7", "put swap", "put 7.", "put +7", "put \u0667", "Put 7",
    "put 7\n", "put 7 read  0 1", "put 7 swap 0",
    # back N, count N
    "back", "back ", "back  1", "back 1 ", "back 01", "back 00", "back -1", "back +1", "back 1.0", "back a", "back 1 1",
    "back 201", "back 202", "back 999", "back 1000", "back 10000000000000000000000", "back 0200", "back -", "Back 1",
    "count", "count ", "count  1", "count 1 ", "count 01", "count 00", "count -1", "count +1", "count 1.0", "count a",
    "count 1 1", "count 201", "count 202", "count 999", "count 1000", "count 10000000000000000000000", "count 0200",
    "count -", "Count 1", "count 20\u0660",
)

OF_A_LOT = ("begin", "missed", "count 0", "count 1", "count 200")

OF_A_LEDGER = ("put 7", "put 75", "put 75 swap", "put b", "put 0000000000 off 11", "back 0", "back 1", "back 200",
               "sheet", "slips", "result")


class FormTest(ConsoleCase):
    def test_nothing_is_there(self):
        self.refuse(InvalidCommand, *NO_COMMANDS)
        self.refuse(NotReady, *OF_A_LOT, *OF_A_LEDGER)

    def test_with_a_kind_and_a_lot(self):
        self.run_all(self.console, "kind 10 2 1 off 9", "lot 9")
        self.refuse(InvalidCommand, *NO_COMMANDS)
        self.tell("missed", "10: 0 0 | 0 off 9")
        self.refuse(NotReady, *OF_A_LEDGER)

    def test_with_a_ledger(self):
        self.run_all(self.console, "kind 10 1 2 off 9, swap", "lot 9", "begin", "put 7 off 9", "put 5")
        before = self.ledger()
        self.refuse(InvalidCommand, *NO_COMMANDS)
        self.assertEqual(self.ledger(), before)
        self.run_all(self.console, "put 3 swap")
        before = self.ledger()
        self.assertEqual(before, ["10: 357", "0 off 9, 2 swap", "waits"])
        self.refuse(InvalidCommand, *NO_COMMANDS)
        self.assertEqual(self.ledger(), before)
        self.tell("missed", "10: 0 | 0 off 9")


class ReadyTest(ConsoleCase):
    def test_a_kind_alone(self):
        self.run_all(self.console, "kind 10 2 1 off 9")
        self.refuse(NotReady, *OF_A_LOT, *OF_A_LEDGER)

    def test_a_lot_alone(self):
        self.run_all(self.console, "lot 9")
        self.refuse(NotReady, *OF_A_LOT, *OF_A_LEDGER)
        self.run_all(self.console, "lot -")
        self.refuse(NotReady, *OF_A_LOT, *OF_A_LEDGER)

    def test_a_lot_without_divisors_is_a_lot(self):
        self.run_all(self.console, "lot -", "kind 10 2 1 again", "begin")
        self.tell("missed", "10: 0 0 | 0 again")

    def test_a_ledger_without_columns_is_a_ledger(self):
        self.run_all(self.console, "kind 10 2 1 again", "lot 9", "begin")
        self.assertEqual(self.ledger(), ["10: - -", "-", "- 0"])
        self.run_all(self.console, "back 0")

    def test_no_kind_and_no_lot_are_not_there(self):
        self.refuse(InvalidKind, "kind 10 2 1 off 11")
        self.refuse(InvalidLot, "lot 1")
        self.refuse(NotReady, *OF_A_LOT, *OF_A_LEDGER)
        self.run_all(self.console, "kind 10 2 1 off 1")
        self.refuse(InvalidLot, "lot 9 9")
        self.refuse(NotReady, *OF_A_LOT, *OF_A_LEDGER)

    def test_ahead_of_the_other_errors(self):
        # With a ledger these raise InvalidColumn, NotPossible and NothingToUndo.
        commands = "put 777", "put 7 forget", "put b swap", "back 1"
        self.refuse(NotReady, *commands)
        self.run_all(self.console, "kind 10 1 1 forget", "lot 9")
        self.refuse(NotReady, *commands)


class KindTest(ConsoleCase):
    def check(self, command, base, rows, deeds, most):
        self.run_all(self.console, command, "lot 3")
        kind = Kind(base, rows, deeds, most)
        self.tell("count 1", " ".join(str(number) for number in counts(kind, [3], columns=1)))
        self.tell("count 2", " ".join(str(number) for number in counts(kind, [3], columns=2)))

    def test_kinds(self):
        self.check("kind 10 2 1 off 9", 10, 2, [("off", 9)], 1)
        self.check("kind 2 1 3 out", 2, 1, [("out",)], 3)
        self.check("kind 12 1 2 off 11, read 0 11", 12, 1, [("off", 11), ("read", 0, 11)], 2)
        self.check("kind 5 4 1 copy 3, copy 0, read 3 4", 5, 4, [("copy", 0), ("copy", 3), ("read", 3, 4)], 1)
        deeds = [("forget",), ("again",), ("off", 1), ("read", 0, 1), ("copy", 0), ("swap",), ("out",), ("twice",)]
        self.check("kind 2 1 2 twice, out, swap, copy 0, read 0 1, off 1, again, forget", 2, 1, deeds, 2)
        self.check("kind 2 1 2 forget, again, off 1, read 0 1, copy 0, swap, out, twice", 2, 1, deeds, 2)

    def test_no_kinds(self):
        self.run_all(self.console, "kind 10 2 1 off 9", "lot 9")
        nine = ", ".join(f"off {d}" for d in range(1, 10))
        self.refuse(
            InvalidKind, "kind 0 1 1 out", "kind 1 1 1 out", "kind 13 1 1 out", "kind 100000000000000000000 1 1 out",
            "kind 10 0 1 out", "kind 2 5 1 out", "kind 10 4 1 out", "kind 6 4 1 out", "kind 12 3 1 out",
            "kind 10 2 0 out", "kind 10 2 4 out", "kind 10 2 1 off 10", "kind 10 2 1 off 11", "kind 2 1 1 off 2",
            "kind 10 2 1 read 2 1", "kind 10 2 1 read 1 10", "kind 10 2 1 copy 2", "kind 10 1 1 copy 1",
            "kind 10 2 1 out, out", "kind 10 2 1 swap, out, swap", "kind 10 1 1 " + nine, "kind 1 1 1 " + nine,
            "kind 10 2 1 out, off 10", "kind " + "9" * 1900 + " 1 1 out",
        )
        # What was set stays.
        self.tell("missed", "10: 0 0 | 0 off 9")

    def test_the_greatest_kinds(self):
        eight = ", ".join(f"off {d}" for d in range(2, 10))
        self.run_all(self.console, "kind 10 3 3 " + eight, "kind 5 4 3 out", "kind 12 2 3 off 11", "kind 2 4 1 copy 3")


class LotTest(ConsoleCase):
    def test_lots(self):
        self.run_all(self.console, "kind 10 1 1 off 1, off 6, again")
        kind = Kind(10, 1, [("off", 1), ("off", 6), ("again",)], 1)
        for lot in ([], [2], [60], [9, 11], [11, 9], [2, 3, 4, 5], [5, 4, 3, 2], [3, 2, 5, 4, 6], [1000]):
            self.run_all(self.console, "lot " + (" ".join(str(r) for r in lot) or "-"))
            self.tell("count 2", " ".join(str(number) for number in counts(kind, lot, columns=2)))

    def test_no_lots(self):
        self.run_all(self.console, "kind 10 2 1 off 9", "lot 9")
        self.refuse(InvalidLot, "lot 0", "lot 1", "lot 9 1", "lot 1 9", "lot 9 9", "lot 9 11 9", "lot 0 0",
                    "lot 2 3 4 0", "lot 10 10", "lot 5 4 3 2 5")
        self.tell("missed", "10: 0 0 | 0 off 9")
        self.run_all(self.console, "lot 11")
        self.refuse(InvalidLot, "lot 0")
        self.tell("missed", "none")


if __name__ == "__main__":
    unittest.main()
