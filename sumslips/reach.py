"""Reach: all standings that can come for a kind and a lot."""

from sumslips.doing import sum_taken
from sumslips.errors import TooMany
from sumslips.steps import Steps

MOST_STANDINGS = 3000


def _all_columns(base, rows):
    """All columns for this base and these rows, in the order of tuples."""
    columns = [()]
    for _ in range(rows):
        columns = [column + (figure,) for column in columns for figure in range(base)]
    return columns


def _groups(kind, steps, deed):
    """A tuple (first column, how many) for each group of columns that lead to the same with a deed or None."""
    firsts = {}
    many = {}
    for column in _all_columns(kind.base, kind.rows):
        # The figure that a copy takes is one of the standing: 0 stands for it here.
        key = (sum(column), sum_taken(kind.base, column, deed, 0), steps.kept(column))
        firsts.setdefault(key, column)
        many[key] = many.get(key, 0) + 1
    return [(column, many[key]) for key, column in firsts.items()]


class Reach:
    """The standings that can come, each with its number from 0 on, and where each of them leads.

    choices: a tuple (deed or None, groups of columns in the order of their first ones) for each deed, None first.
    standings: in the order of their numbers; the beginning has the number 0.
    nexts: for each number a dict of the numbers of the next standings, with how many columns and deeds lead there.
    """

    def __init__(self, kind, lot):
        self._steps = Steps(kind, lot)
        self.choices = [(deed, _groups(kind, self._steps, deed)) for deed in [None] + kind.deeds]
        self._numbers = {}
        self.standings = []
        self.nexts = []
        self._number(self._steps.start())
        while len(self.nexts) < len(self.standings):
            self.nexts.append(self._next_of(len(self.nexts)))

    def _number(self, standing):
        """The number of a standing, a new one if it has none."""
        if standing not in self._numbers:
            if len(self.standings) == MOST_STANDINGS:
                raise TooMany("more than 3,000 standings can come")
            self._numbers[standing] = len(self.standings)
            self.standings.append(standing)
        return self._numbers[standing]

    def number_of(self, standing):
        """The number of a standing that can come."""
        return self._numbers[standing]

    def choices_at(self, number):
        """The choices at a standing: None alone where no slip may be made."""
        return self.choices if self._steps.may_slip(self.standings[number]) else self.choices[:1]

    def _next_of(self, number):
        found = {}
        standing = self.standings[number]
        for deed, groups in self.choices_at(number):
            for column, many in groups:
                led = self._steps.lead(standing, column, deed)
                if led is not None:
                    after = self._number(led)
                    found[after] = found.get(after, 0) + many
        return found

    def lead(self, number, column, deed):
        """The number of the standing to which a column and a deed or None lead, or None if not possible."""
        led = self._steps.lead(self.standings[number], column, deed)
        return None if led is None else self._numbers[led]
