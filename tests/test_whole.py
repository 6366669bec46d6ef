"""Promises 2 and 5, the whole: one sheet through all modules."""

import random
import unittest
from itertools import product

import oracle
from sumslips.adding import Written, add_right, add_with
from sumslips.console import Console
from sumslips.counts import counts
from sumslips.explaining import slips_for, slips_shown
from sumslips.finding import closed_list, is_closed, missed
from sumslips.kinds import Kind
from sumslips.ledger import Ledger
from sumslips.lots import least_lots, parting
from sumslips.sheets import Sheet
from sumslips.standings import beginning, behind, standing_of
from sumslips.texts import read_sheet, read_slips, show_sheet, show_slips

FORGET, AGAIN, SWAP, OUT, TWICE = ("forget",), ("again",), ("swap",), ("out",), ("twice",)

KINDS = (
    (Kind(2, 1, [FORGET, AGAIN, ("off", 1), ("read", 0, 1), ("copy", 0), SWAP, OUT, TWICE], 2), [3]),
    (Kind(2, 2, [FORGET, ("copy", 1), SWAP, TWICE], 2), [3, 5]),
    (Kind(3, 2, [("off", 2), ("read", 1, 1), OUT], 2), [4]),
    (Kind(10, 2, [FORGET, ("off", 9), SWAP], 1), [9]),
    (Kind(10, 3, [("read", 2, 3), SWAP], 2), [11]),
    (Kind(12, 1, [("copy", 0), ("off", 11), OUT], 2), [11]),
)

FIGURES = "0123456789ab"


def words_of(deed):
    return " ".join(str(item) for item in deed)


def console_with(kind, lot):
    console = Console()
    deeds = ", ".join(words_of(deed) for deed in kind.deeds)
    console.execute(f"kind {kind.base} {kind.rows} {kind.most} {deeds}")
    console.execute("lot " + (" ".join(str(r) for r in lot) or "-"))
    console.execute("begin")
    return console


def put_into(console, column, deed):
    command = "put " + "".join(FIGURES[figure] for figure in column)
    return console.execute(command if deed is None else f"{command} {words_of(deed)}")


def sheets(turns):
    """Kinds, lots, sheets and slips of the kind for them."""
    told = random.Random(5)
    for _ in range(turns):
        kind, lot = told.choice(KINDS)
        columns = [told.choice(oracle.all_columns(kind.base, kind.rows)) for _ in range(told.randint(1, 6))]
        slips = told.choice([[]] + oracle.slips_of(kind, columns))
        yield kind, lot, Sheet(kind.base, kind.rows, columns), slips


class OneSheetTest(unittest.TestCase):
    def test_all_modules_tell_the_same(self):
        for kind, lot, sheet, slips in sheets(80):
            written = add_with(sheet, slips)
            figures, last, value = oracle.add(kind.base, sheet.columns, slips)
            self.assertEqual((written.figures, written.last, written.value), (figures, last, value))

            ledger, console, told = Ledger(kind, lot), console_with(kind, lot), dict(slips)
            standing = beginning(kind, lot)
            for at, column in enumerate(sheet.columns):
                ledger.put(column, deed=told.get(at))
                self.assertEqual(put_into(console, column, told.get(at)), "ok")
                standing = behind(kind, lot, standing, column, told.get(at))
            self.assertEqual(standing, standing_of(kind, lot, sheet, slips))
            self.assertEqual(ledger.standing, standing)
            self.assertEqual((ledger.sheet, ledger.slips, ledger.result()), (sheet, slips, written))

            self.assertEqual(read_sheet(console.execute("sheet")), sheet)
            self.assertEqual(read_slips(console.execute("slips")), slips)
            self.assertEqual(console.execute("sheet"), show_sheet(sheet))
            self.assertEqual(console.execute("slips"), show_slips(slips))
            shown = "".join(FIGURES[figure] for figure in reversed(figures)) or "-"
            self.assertEqual(console.execute("result"), f"{shown} {last}")

            shown = [written.rest(r) for r in lot]
            self.assertEqual(slips in slips_for(kind, sheet, written), slips != [])
            self.assertEqual(slips in slips_shown(kind, sheet, lot, shown), slips != [])
            # The first part of each rest is by how much the result leaves another rest than the sheet.
            self.assertEqual([rest[0] for rest in standing[6]], [(written - sheet) % r for r in lot])

    def test_what_is_missed(self):
        for kind, lot, sheet, slips in sheets(80):
            gap = add_with(sheet, slips) - sheet
            is_missed = gap != 0 and all(gap % r == 0 for r in lot)
            ledger, told = Ledger(kind, lot), dict(slips)
            for at, column in enumerate(sheet.columns):
                ledger.put(column, deed=told.get(at))
            found = ledger.next_missed()
            self.assertEqual(found == (Sheet(kind.base, kind.rows, []), []), is_missed)
            self.assertEqual(ledger.standing[5] != 0 and not any(rest[0] for rest in ledger.standing[6]), is_missed)
            rests = [sheet.value % r for r in lot]
            is_seen = any(gap % r for r in lot)
            self.assertEqual(slips in slips_shown(kind, sheet, lot, rests), slips != [] and not is_seen)
            if found is not None:
                whole = sheet + found[0]
                gap = add_with(whole, slips + found[1]) - whole
                self.assertTrue(oracle.is_missed(lot, gap))


class FoundTest(unittest.TestCase):
    def test_what_is_found_is_put_into_a_ledger(self):
        for kind, lot in KINDS:
            found = missed(kind, lot)
            self.assertIsNotNone(found)
            sheet, slips = found
            ledger, console, told = Ledger(kind, lot), console_with(kind, lot), dict(slips)
            # The first missed sheet is the next missed at the beginning, and what is left of it at each column.
            self.assertEqual(ledger.next_missed(), found)
            self.assertEqual(console.execute("missed"), f"{show_sheet(sheet)} | {show_slips(slips)}")
            for at in range(len(sheet)):
                ledger.put(sheet[at], deed=told.get(at))
                put_into(console, sheet[at], told.get(at))
                follow, more = ledger.next_missed()
                self.assertEqual(len(follow), len(sheet) - at - 1)
                self.assertLessEqual(follow, sheet.cut(at + 1, len(sheet)))
                whole = ledger.sheet + follow
                self.assertTrue(oracle.is_missed(lot, add_with(whole, ledger.slips + more) - whole))
            self.assertEqual(ledger.next_missed(), (Sheet(kind.base, kind.rows, []), []))
            self.assertEqual((ledger.sheet, ledger.slips), found)
            self.assertEqual(console.execute("sheet"), show_sheet(sheet))
            self.assertEqual(console.execute("slips"), show_slips(slips))
            self.assertIn(slips, slips_shown(kind, sheet, lot, [sheet.value % r for r in lot]))
            self.assertIn(slips, slips_for(kind, sheet, ledger.result()))
            self.assertIsNone(closed_list(kind, lot))
            self.assertEqual(least_lots(kind, lot), [])

    def test_what_is_not_found(self):
        for kind, lot in (
            (Kind(10, 2, [("off", 9)], 1), [11]),
            (Kind(10, 1, [SWAP], 1), [9, 11]),
            (Kind(2, 1, [("off", 1), AGAIN], 1), [9, 7]),
        ):
            self.assertIsNone(missed(kind, lot))
            self.assertEqual(console_with(kind, lot).execute("missed"), "none")
            ledger = Ledger(kind, lot)
            self.assertIsNone(ledger.next_missed())
            shown = closed_list(kind, lot)
            self.assertTrue(is_closed(kind, lot, shown))
            told = random.Random(1)
            for _ in range(30):
                column = told.choice(oracle.all_columns(kind.base, kind.rows))
                deed = told.choice([None] + kind.deeds)
                if ledger.waits or ledger.standing[0] == 0 or deed == FORGET:
                    deed = None
                ledger.put(column, deed=deed)
                self.assertIn(ledger.standing, shown)
                self.assertIsNone(ledger.next_missed())
            for part in least_lots(kind, lot):
                self.assertIsNone(Ledger(kind, part).next_missed())
                # Both see every wrong result.
                self.assertIsNone(parting(kind, part, lot))

    def test_what_parts(self):
        kind = Kind(10, 1, [SWAP, ("off", 1)], 1)
        sheet, slips = parting(kind, [9], [11])
        rests = [sheet.value % 9], [sheet.value % 11]
        told = [slips in slips_shown(kind, sheet, lot, rest) for lot, rest in zip(([9], [11]), rests)]
        self.assertEqual(sorted(told), [False, True])
        ends = [Ledger(kind, [9]), Ledger(kind, [11])]
        for ledger in ends:
            for at, column in enumerate(sheet.columns):
                ledger.put(column, deed=dict(slips).get(at))
        self.assertEqual(sorted(ledger.standing[6][0][0] == 0 for ledger in ends), [False, True])


class CountsTest(unittest.TestCase):
    def by_explaining(self, kind, lot, many):
        told = [0, 0, 0]
        for columns in product(oracle.all_columns(kind.base, kind.rows), repeat=many):
            sheet = Sheet(kind.base, kind.rows, list(columns))
            told[0] += len(slips_shown(kind, sheet, [], []))
            # A divisor above every value leaves the value itself.
            great = kind.base ** (many + 9)
            harmless = len(slips_shown(kind, sheet, [great], [sheet.value]))
            told[1] += harmless
            told[2] += len(slips_shown(kind, sheet, lot, [sheet.value % r for r in lot])) - harmless
        return tuple(told)

    def test_counts_agree_with_counting_by_explaining(self):
        for kind, lot in KINDS[:4]:
            for many in (0, 1, 2, 3) if kind.base == 2 else (0, 1, 2) if kind.base == 3 else (0, 1):
                told = self.by_explaining(kind, lot, many)
                self.assertEqual(counts(kind, lot, columns=many), told)
                shown = console_with(kind, lot).execute(f"count {many}")
                self.assertEqual(shown, " ".join(str(number) for number in told))
        kind = Kind(10, 1, [SWAP, OUT, TWICE], 2)
        for many in range(3):
            self.assertEqual(counts(kind, [9], columns=many), self.by_explaining(kind, [9], many))

    def test_every_result_of_a_sheet_is_explained_once(self):
        kind, _ = KINDS[0]
        for columns in product(oracle.all_columns(2, 1), repeat=3):
            sheet = Sheet(2, 1, list(columns))
            everything = slips_shown(kind, sheet, [], [])
            results = []
            for slips in everything:
                written = add_with(sheet, slips)
                if written not in results:
                    results.append(written)
            found = [slips for written in results for slips in slips_for(kind, sheet, written)]
            self.assertEqual(sorted(map(show_slips, found)), sorted(map(show_slips, everything)))
            parts = [slips for rest in range(7) for slips in slips_shown(kind, sheet, [7], [rest])]
            self.assertEqual(sorted(map(show_slips, parts)), sorted(map(show_slips, everything)))


class GeneralTest(unittest.TestCase):
    def test_the_same_calls_answer_the_same_behind_others(self):
        def told():
            kind, lot = KINDS[1]
            sheet = Sheet(2, 2, [(1, 1), (0, 1), (1, 1)])
            ledger = Ledger(kind, lot)
            ledger.put((1, 1), deed=SWAP)
            console = console_with(kind, lot)
            written = add_with(sheet, [(0, FORGET)])
            return repr((
                [slips_for(kind, sheet, written), slips_shown(kind, sheet, lot, [0, 1])],
                [ledger.standing, ledger.slips, ledger.waits],
                [show_sheet(ledger.next_missed()[0]), ledger.next_missed()[1]],
                [console.execute(command) for command in ("sheet", "slips", "result", "missed", "count 4")],
                [show_sheet(missed(kind, lot)[0]), missed(kind, lot)[1], counts(kind, lot, columns=5)],
                [closed_list(KINDS[3][0], [11]), least_lots(KINDS[3][0], [9, 11, 7])],
                [written.figures, written.last, add_right(sheet).figures],
                [read_sheet("2: 101 111").columns, read_slips("0 forget, 2 read 1 9")],
            ))

        first = told()
        for kind, lot, sheet, slips in sheets(20):
            add_with(sheet, slips)
            slips_for(kind, sheet, add_with(sheet, slips)).clear()
            missed(kind, lot)[1].clear()
            Ledger(kind, lot).next_missed()
            console_with(kind, lot).execute("missed")
            sheet[0] = (0,) * kind.rows
            counts(kind, lot, columns=3)
        self.assertEqual(told(), first)

    def test_sheets_slips_and_columns_that_are_passed_may_be_changed(self):
        kind = Kind(10, 2, [FORGET, SWAP], 2)
        columns, figures = [(7, 5), (1, 0)], [2, 1]
        sheet, written = Sheet(10, 2, columns), Written(10, figures, 0)
        slips, lot = [(0, FORGET)], [9]
        columns.append((0,))
        figures.append(7)
        first = slips_for(kind, sheet, written)
        result = add_with(sheet, slips)
        text = show_sheet(sheet)
        sheet[0] = (0, 0)
        slips.clear()
        lot.append(9)
        self.assertEqual((first, result, text), ([[(0, FORGET)]], Written(10, [2, 1], 0), "10: 17 05"))
        self.assertEqual(slips_for(kind, sheet, written), [])
        self.assertEqual(sheet.columns, [(0, 0), (1, 0)])


if __name__ == "__main__":
    unittest.main()
