"""The section "The interface": its names stand where it lists them, and its examples hold."""

import ast
import pathlib
import unittest

from sumslips.adding import add_with
from sumslips.kinds import Kind
from sumslips.sheets import Sheet

PACKAGE = pathlib.Path(__file__).resolve().parent.parent / "sumslips"

ORDER = ["__eq__", "__lt__", "__le__", "__gt__", "__ge__"]

LISTED = {
    "errors.py": {
        name: [] for name in (
            "SlipError", "InvalidSheet", "InvalidColumn", "InvalidKind", "InvalidLot", "NotAlike", "NotPossible",
            "TooMany", "Waits", "InvalidText", "InvalidCommand", "NothingToUndo", "NotReady", "InvalidSlips",
        )
    },
    "sheets.py": {
        "Sheet": ["base", "rows", "columns", "value", "__len__", "__getitem__", "__setitem__", "cut", "__add__"] + ORDER,
    },
    "adding.py": {
        "Written": ["base", "figures", "last", "value", "rest", "__sub__", "__eq__"],
        "add_right": None,
        "add_with": None,
    },
    "kinds.py": {
        "Kind": ["base", "rows", "deeds", "most", "__contains__", "__or__", "__and__", "within", "__eq__"],
    },
}


class InterfaceTest(unittest.TestCase):
    def test_names_are_defined_where_they_are_listed(self):
        for file, names in LISTED.items():
            tree = ast.parse((PACKAGE / file).read_text())
            defined = {node.name: node for node in tree.body if isinstance(node, (ast.ClassDef, ast.FunctionDef))}
            for name, methods in names.items():
                with self.subTest(file=file, name=name):
                    self.assertIn(name, defined)
                    self.assertIsInstance(defined[name], ast.FunctionDef if methods is None else ast.ClassDef)
                    held = {node.name for node in defined[name].body if isinstance(node, ast.FunctionDef)}
                    for method in methods or []:
                        self.assertIn(method, held)

    def test_examples(self):
        written = add_with(Sheet(10, 2, [(7, 5), (1, 0)]), [(0, ("forget",))])
        self.assertEqual((written.figures, written.last), ([2, 1], 0))
        kind = Kind(10, 2, [("off", 9)], 1)
        sheet = Sheet(10, 2, [(0, 0)])
        slips = [(0, ("off", 9))]
        self.assertIn(slips[0][1], kind)
        self.assertEqual(add_with(sheet, slips).figures, [9])
        self.assertEqual((add_with(sheet, slips) - sheet) % 9, 0)
        self.assertNotEqual((add_with(sheet, slips) - sheet) % 11, 0)

    def test_what_is_returned_may_be_passed_again(self):
        sheet = Sheet(10, 2, [(7, 5), (1, 0)])
        self.assertEqual(Sheet(sheet.base, sheet.rows, sheet.columns), sheet)
        kind = Kind(10, 2, [("swap",), ("off", 9)], 2)
        self.assertEqual(Kind(kind.base, kind.rows, kind.deeds, kind.most), kind)
        sheet[0] = sheet[1]
        self.assertEqual(sheet.columns, [(1, 0), (1, 0)])


if __name__ == "__main__":
    unittest.main()
