"""What the tests of consoles share."""

import unittest

from sumslips.console import Console
from sumslips.errors import SlipError


class ConsoleCase(unittest.TestCase):
    def setUp(self):
        self.console = Console()

    def run_all(self, console, *commands):
        for command in commands:
            told = console.execute(command)
            self.assertIs(type(told), str)
            self.assertEqual(told, "ok", command)

    def tell(self, command, told):
        with self.subTest(command=command):
            found = self.console.execute(command)
            self.assertIs(type(found), str)
            self.assertEqual(found, told)

    def refuse(self, error, *commands):
        for command in commands:
            with self.subTest(command=command):
                with self.assertRaises(error) as caught:
                    self.console.execute(command)
                self.assertIs(type(caught.exception), error)
                self.assertIsInstance(caught.exception, SlipError)
                self.assertIsInstance(caught.exception, ValueError)

    def ledger(self):
        return [self.console.execute(command) for command in ("sheet", "slips", "result")]
