"""Sheets: the columns of figures that are added."""

from sumslips.alike import check_alike
from sumslips.errors import InvalidColumn, InvalidSheet
from sumslips.integers import is_base, is_rows, is_whole, place_value


def is_column(base, rows, value):
    """Whether a value of any kind is a column for this base and these rows."""
    if not isinstance(value, tuple) or len(value) != rows:
        return False
    return all([is_whole(figure, 0, base - 1) for figure in value])


def _are_columns(base, rows, value):
    if not isinstance(value, list):
        return False
    return all([is_column(base, rows, column) for column in value])


class Sheet:
    """A base, a number of rows and a list of columns, the units first."""

    def __init__(self, base, rows, columns):
        if not is_base(base):
            raise InvalidSheet("the base is not an integer from 2 to 12")
        if not is_rows(rows):
            raise InvalidSheet("the number of rows is not an integer from 1 to 4")
        if not _are_columns(base, rows, columns):
            raise InvalidSheet("the columns are not a list of columns")
        self._base = base
        self._rows = rows
        self._columns = [tuple(column) for column in columns]

    @property
    def base(self):
        """The base of the figures."""
        return self._base

    @property
    def rows(self):
        """The number of rows."""
        return self._rows

    @property
    def columns(self):
        """A new list of the columns, the units first."""
        return list(self._columns)

    @property
    def value(self):
        """The right result."""
        return place_value(self._base, [sum(column) for column in self._columns], 0)

    def __len__(self):
        return len(self._columns)

    def __getitem__(self, at):
        return self._columns[at]

    def __setitem__(self, at, worth):
        if not is_column(self._base, self._rows, worth):
            raise InvalidColumn("the value is not a column of this sheet")
        self._columns[at] = tuple(worth)

    # Without this, Python would go over a sheet through its items.
    def __iter__(self):
        raise TypeError("a sheet is not gone over: take its columns")

    def cut(self, low, high):
        """A new sheet with the columns from low on and below high."""
        return Sheet(self._base, self._rows, self._columns[low:high])

    def __add__(self, other):
        if not isinstance(other, Sheet):
            return NotImplemented
        check_alike(self, other)
        return Sheet(self._base, self._rows, self._columns + other._columns)

    def _place(self):
        return (self._base, self._rows, len(self._columns), self._columns)

    def __eq__(self, other):
        if not isinstance(other, Sheet):
            return False
        return self._place() == other._place()

    def __lt__(self, other):
        if not isinstance(other, Sheet):
            return NotImplemented
        return self._place() < other._place()

    def __le__(self, other):
        if not isinstance(other, Sheet):
            return NotImplemented
        return self._place() <= other._place()

    def __gt__(self, other):
        if not isinstance(other, Sheet):
            return NotImplemented
        return self._place() > other._place()

    def __ge__(self, other):
        if not isinstance(other, Sheet):
            return NotImplemented
        return self._place() >= other._place()
