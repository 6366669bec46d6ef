"""Promise 4: the errors."""

import unittest

from sumslips import errors
from sumslips.errors import InvalidSlips, SlipError

WITH_A_TEXT = [
    "InvalidSheet", "InvalidColumn", "InvalidKind", "InvalidLot", "NotAlike", "NotPossible",
    "TooMany", "Waits", "InvalidText", "InvalidCommand", "NothingToUndo", "NotReady",
]


class ErrorsTest(unittest.TestCase):
    def test_the_common_class_is_directly_under_value_error(self):
        self.assertEqual(SlipError.__bases__, (ValueError,))

    def test_every_class_is_directly_under_slip_error(self):
        for name in WITH_A_TEXT + ["InvalidSlips"]:
            with self.subTest(name):
                self.assertEqual(getattr(errors, name).__bases__, (SlipError,))

    def test_no_class_stands_under_two_names(self):
        classes = {getattr(errors, name) for name in WITH_A_TEXT + ["InvalidSlips"]}
        self.assertEqual(len(classes), len(WITH_A_TEXT) + 1)

    def test_an_error_is_created_with_one_text(self):
        for name in WITH_A_TEXT:
            with self.subTest(name):
                error = getattr(errors, name)("something is wrong")
                self.assertIsInstance(error, SlipError)
                self.assertIsInstance(error, ValueError)
                self.assertEqual(str(error), "something is wrong")

    def test_an_error_is_caught_by_no_other_class(self):
        for name in WITH_A_TEXT:
            for other in WITH_A_TEXT + ["InvalidSlips"]:
                if name != other:
                    self.assertNotIsInstance(getattr(errors, name)("a text"), getattr(errors, other))

    def test_invalid_slips_has_the_index(self):
        for index in (0, 1, 17):
            error = InvalidSlips(index)
            self.assertEqual(error.index, index)
            self.assertIsInstance(error, SlipError)
            self.assertIsInstance(error, ValueError)
            self.assertIsInstance(str(error), str)
            for name in WITH_A_TEXT:
                self.assertNotIsInstance(error, getattr(errors, name))


if __name__ == "__main__":
    unittest.main()
