"""A console: commands that set a kind and a lot and keep a ledger."""

from sumslips.commands import read_command
from sumslips.counts import counts
from sumslips.divisors import check_lot
from sumslips.errors import NotReady
from sumslips.finding import missed
from sumslips.kinds import Kind
from sumslips.ledger import Ledger
from sumslips.numerals import show_figures, show_integer
from sumslips.texts import show_sheet, show_slips

# What the commands need that must be there.
NEED_LOT = ("begin", "missed", "count")
NEED_LEDGER = ("put", "back", "sheet", "slips", "result")

# The commands that return nothing but that it went well.
CHANGING = ("kind", "lot", "begin", "put", "back")


class Console:
    """A kind and a lot that were set, and a ledger that was begun, each None at first."""

    def __init__(self):
        self._kind = None
        self._lot = None
        self._ledger = None

    def execute(self, command):
        """Does what a command asks for, and returns its answer."""
        word, told = read_command(command)
        if word in NEED_LOT and (self._kind is None or self._lot is None):
            raise NotReady("a kind and a lot are needed")
        if word in NEED_LEDGER and self._ledger is None:
            raise NotReady("a ledger is needed")
        if word in CHANGING:
            self._change(word, told)
            return "ok"
        return self._answer(word, told)

    def _change(self, word, told):
        if word == "kind":
            base, rows, most, deeds = told
            self._kind = Kind(base, rows, deeds, most)
        elif word == "lot":
            check_lot(told)
            self._lot = told
        elif word == "begin":
            self._ledger = Ledger(self._kind, self._lot)
        elif word == "put":
            column, deed = told
            self._ledger.put(column, deed=deed)
        else:
            self._ledger.back(count=told)

    def _answer(self, word, told):
        if word == "sheet":
            return show_sheet(self._ledger.sheet)
        if word == "slips":
            return show_slips(self._ledger.slips)
        if word == "result":
            return self._show_result()
        if word == "missed":
            return self._show_missed()
        return " ".join([show_integer(number) for number in counts(self._kind, self._lot, columns=told)])

    def _show_result(self):
        if self._ledger.waits:
            return "waits"
        written = self._ledger.result()
        return f"{show_figures(written.figures)} {show_integer(written.last)}"

    def _show_missed(self):
        found = missed(self._kind, self._lot)
        if found is None:
            return "none"
        sheet, slips = found
        return f"{show_sheet(sheet)} | {show_slips(slips)}"
