"""The section "The interface": its names stand where it lists them, and its examples hold."""

import ast
import inspect
import pathlib
import unittest

from sumslips.adding import Written, add_right, add_with
from sumslips.console import Console
from sumslips.counts import counts
from sumslips.explaining import slips_for, slips_shown
from sumslips.finding import closed_list, is_closed, missed
from sumslips.kinds import Kind
from sumslips.ledger import Ledger
from sumslips.lots import least_lots, parting
from sumslips.sheets import Sheet
from sumslips.standings import beginning, behind, standing_of
from sumslips.texts import read_sheet, read_slips, show_sheet, show_slips

PACKAGE = pathlib.Path(__file__).resolve().parent.parent / "sumslips"

ORDER = ["__eq__", "__lt__", "__le__", "__gt__", "__ge__"]

LISTED = {
    "errors.py": {
        name: [] for name in (
            "SlipError", "InvalidSheet", "InvalidColumn", "InvalidKind", "InvalidLot", "NotAlike", "NotPossible",
            "TooMany", "Waits", "InvalidText", "InvalidCommand", "NothingToUndo", "NotReady", "InvalidSlips",
        )
    },
    "sheets.py": {
        "Sheet": [
            "base", "rows", "columns", "value", "cut", "__len__", "__getitem__", "__setitem__", "__add__", *ORDER,
        ],
    },
    "adding.py": {
        "Written": ["base", "figures", "last", "value", "rest", "__sub__", "__eq__"],
        "add_right": None,
        "add_with": None,
    },
    "kinds.py": {
        "Kind": ["base", "rows", "deeds", "most", "__contains__", "__or__", "__and__", "within", "__eq__"],
    },
    "standings.py": {"beginning": None, "behind": None, "standing_of": None},
    "finding.py": {"missed": None, "closed_list": None, "is_closed": None},
    "lots.py": {"least_lots": None, "parting": None},
    "counts.py": {"counts": None},
    "explaining.py": {"slips_for": None, "slips_shown": None},
    "ledger.py": {
        "Ledger": ["sheet", "slips", "standing", "waits", "__len__", "put", "back", "result", "next_missed"],
    },
    "texts.py": {"show_sheet": None, "show_slips": None, "read_sheet": None, "read_slips": None},
    "console.py": {"Console": ["execute"]},
}

ARGUMENTS = {
    add_right: "(sheet)",
    add_with: "(sheet, slips)",
    beginning: "(kind, lot)",
    behind: "(kind, lot, standing, column, deed)",
    standing_of: "(kind, lot, sheet, slips)",
    missed: "(kind, lot)",
    closed_list: "(kind, lot)",
    is_closed: "(kind, lot, standings)",
    least_lots: "(kind, lot)",
    parting: "(kind, lot, other)",
    counts: "(kind, lot, *, columns)",
    slips_for: "(kind, sheet, written)",
    slips_shown: "(kind, sheet, lot, shown)",
    show_sheet: "(sheet)",
    show_slips: "(slips)",
    read_sheet: "(text)",
    read_slips: "(text)",
    Sheet: "(base, rows, columns)",
    Sheet.cut: "(self, low, high)",
    Written: "(base, figures, last)",
    Written.rest: "(self, r)",
    Kind: "(base, rows, deeds, most)",
    Kind.within: "(self, other)",
    Ledger: "(kind, lot)",
    Ledger.put: "(self, column, *, deed=None)",
    Ledger.back: "(self, *, count=1)",
    Ledger.result: "(self)",
    Ledger.next_missed: "(self)",
    Console: "()",
    Console.execute: "(self, command)",
}

PROPERTIES = {
    Sheet: ["base", "rows", "columns", "value"],
    Written: ["base", "figures", "last", "value"],
    Kind: ["base", "rows", "deeds", "most"],
    Ledger: ["sheet", "slips", "standing", "waits"],
}


class InterfaceTest(unittest.TestCase):
    def test_names_are_defined_where_they_are_listed(self):
        for file, names in LISTED.items():
            tree = ast.parse((PACKAGE / file).read_text())
            defined = {node.name: node for node in tree.body if isinstance(node, (ast.ClassDef, ast.FunctionDef))}
            for name, methods in names.items():
                with self.subTest(file=file, name=name):
                    self.assertIn(name, defined)
                    self.assertIsInstance(defined[name], ast.FunctionDef if methods is None else ast.ClassDef)
                    held = {node.name for node in defined[name].body if isinstance(node, ast.FunctionDef)}
                    for method in methods or []:
                        self.assertIn(method, held)

    def test_arguments(self):
        for function, told in ARGUMENTS.items():
            self.assertEqual(str(inspect.signature(function)), told, function.__name__)

    def test_properties(self):
        for held, names in PROPERTIES.items():
            for name in names:
                self.assertIsInstance(vars(held)[name], property)

    def test_examples(self):
        written = add_with(Sheet(10, 2, [(7, 5), (1, 0)]), [(0, ("forget",))])
        self.assertEqual((written.figures, written.last), ([2, 1], 0))
        kind = Kind(10, 2, [("off", 9)], 1)
        sheet = Sheet(10, 2, [(0, 0)])
        slips = [(0, ("off", 9))]
        self.assertIn(slips[0][1], kind)
        self.assertEqual(missed(kind, [9]), (sheet, slips))
        self.assertIsNone(missed(kind, [11]))
        self.assertEqual(add_with(sheet, slips).figures, [9])
        self.assertEqual((add_with(sheet, slips) - sheet) % 9, 0)
        self.assertNotEqual((add_with(sheet, slips) - sheet) % 11, 0)

    def test_what_is_returned_may_be_passed_again(self):
        sheet = Sheet(10, 2, [(7, 5), (1, 0)])
        self.assertEqual(Sheet(sheet.base, sheet.rows, sheet.columns), sheet)
        kind = Kind(10, 2, [("swap",), ("off", 9)], 2)
        self.assertEqual(Kind(kind.base, kind.rows, kind.deeds, kind.most), kind)
        sheet[0] = sheet[1]
        self.assertEqual(sheet.columns, [(1, 0), (1, 0)])

    def test_answers_may_be_passed_again(self):
        kind = Kind(10, 2, [("off", 9)], 1)
        sheet, slips = missed(kind, [9])
        self.assertEqual((add_with(sheet, slips) - sheet) % 9, 0)
        end = standing_of(kind, [9], sheet, slips)
        self.assertEqual(behind(kind, [9], beginning(kind, [9]), sheet[0], slips[0][1]), end)
        self.assertIs(is_closed(kind, [11], closed_list(kind, [11])), True)
        part = least_lots(kind, [9, 11, 7])[0]
        self.assertEqual(closed_list(kind, part), closed_list(kind, [11]))
        sheet, slips = parting(kind, [9], part)
        self.assertEqual(standing_of(kind, part, sheet, slips)[0], 0)
        self.assertEqual(counts(kind, part, columns=len(sheet)), (100, 0, 0))


if __name__ == "__main__":
    unittest.main()
