"""Adding: the result that a person writes who adds a sheet rightly or with slips."""

from sumslips.deeds import is_deed
from sumslips.doing import do_columns, do_slip
from sumslips.errors import InvalidSlips
from sumslips.integers import is_whole, place_value
from sumslips.sheets import Sheet


class Written:
    """A written result: figures from the units on, and a last carry."""

    def __init__(self, base, figures, last):
        self._base = base
        self._figures = list(figures)
        self._last = last

    @property
    def base(self):
        """The base of the figures."""
        return self._base

    @property
    def figures(self):
        """A new list of the figures, from the units on."""
        return list(self._figures)

    @property
    def last(self):
        """The last carry."""
        return self._last

    @property
    def value(self):
        """The integer that is written."""
        return place_value(self._base, self._figures, self._last)

    def rest(self, r):
        """What is left when the value is divided by r."""
        return self.value % r

    def __sub__(self, other):
        if not isinstance(other, Sheet):
            return NotImplemented
        return self.value - other.value

    def __eq__(self, other):
        if not isinstance(other, Written):
            return False
        return self._base == other._base and self._figures == other._figures and self._last == other._last


def is_slip(sheet, low, value):
    """Whether a value of any kind is a tuple of a column from low on and a deed."""
    if not isinstance(value, tuple) or len(value) != 2:
        return False
    return is_whole(value[0], low, len(sheet) - 1) and is_deed(sheet.base, sheet.rows, value[1])


def add_with(sheet, slips):
    """The result that is written when a sheet is added with these slips."""
    base = sheet.base
    columns = sheet.columns
    figures = []
    carry = 0
    low = 0
    for index, item in enumerate(slips):
        if not is_slip(sheet, low, item):
            raise InvalidSlips(index)
        at, deed = item
        right, carry = do_columns(base, columns[low:at], carry)
        done = do_slip(base, columns, at, carry, deed)
        if done is None:
            raise InvalidSlips(index)
        wrong, carry, low = done
        figures = figures + right + wrong
    right, carry = do_columns(base, columns[low:], carry)
    return Written(base, figures + right, carry)


def add_right(sheet):
    """The result that is written when a sheet is added without slips."""
    return add_with(sheet, [])
