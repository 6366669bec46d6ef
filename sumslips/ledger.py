"""A ledger: one person, column by column."""

from sumslips.adding import add_with
from sumslips.ends import is_end, is_missed_end
from sumslips.errors import InvalidColumn, NothingToUndo, Waits
from sumslips.reach import Reach
from sumslips.searching import first_way
from sumslips.sheets import Sheet, is_column
from sumslips.standings import beginning, behind


class Ledger:
    """The columns that a person has come to, for a kind and a lot, and the slips at them."""

    def __init__(self, kind, lot):
        # The standings behind 0, 1, .. columns.
        self._standings = [beginning(kind, lot)]
        self._kind = kind
        self._lot = list(lot)
        self._columns = []
        self._slips = []
        self._reach = None

    @property
    def sheet(self):
        """A new sheet with the columns."""
        return Sheet(self._kind.base, self._kind.rows, self._columns)

    @property
    def slips(self):
        """A new list of the slips."""
        return list(self._slips)

    @property
    def standing(self):
        """The standing behind the last column."""
        return self._standings[-1]

    @property
    def waits(self):
        """Whether a figure waits for the next column."""
        return not is_end(self._standings[-1])

    def __len__(self):
        return len(self._columns)

    def put(self, column, *, deed=None):
        """Puts a column behind the others, done with a deed, or rightly if it is None."""
        if not is_column(self._kind.base, self._kind.rows, column):
            raise InvalidColumn("the value is not a column of this ledger")
        self._standings.append(behind(self._kind, self._lot, self._standings[-1], column, deed))
        if deed is not None:
            self._slips.append((len(self._columns), deed))
        self._columns.append(column)

    def back(self, *, count=1):
        """Takes back so many of the last columns, with the slips at them."""
        many = len(self._columns) - count
        if many < 0:
            raise NothingToUndo("there are fewer columns")
        self._columns = self._columns[:many]
        self._standings = self._standings[:many + 1]
        self._slips = [slip for slip in self._slips if slip[0] < many]

    def result(self):
        """The result that is written."""
        if self.waits:
            raise Waits("a figure waits for the next column")
        return add_with(self.sheet, self._slips)

    def next_missed(self):
        """The first columns that can follow with a missed result behind them, and the first slips at them, or None."""
        # All standings that can come are the same ones wherever the person is: they are looked for once.
        if self._reach is None:
            self._reach = Reach(self._kind, self._lot)
        reach = self._reach
        wanted = [is_missed_end(standing) for standing in reach.standings]
        found = first_way(reach, reach.number_of(self._standings[-1]), wanted)
        if found is None:
            return None
        columns, slips = found
        many = len(self._columns)
        return Sheet(self._kind.base, self._kind.rows, columns), [(many + at, deed) for at, deed in slips]
