"""Kinds: the deeds that a person may do, and how many of them."""

from sumslips.alike import check_alike
from sumslips.deeds import deeds_of, is_deed
from sumslips.errors import InvalidKind, NotAlike
from sumslips.integers import is_base, is_rows, is_whole, power

MOST_COLUMNS = 1000
MOST_DEEDS = 8
MOST_SLIPS = 3


def _are_deeds(base, rows, value):
    """Whether a value of any kind is a list of different deeds, neither none nor too many."""
    if not isinstance(value, list) or not 1 <= len(value) <= MOST_DEEDS:
        return False
    if not all([is_deed(base, rows, deed) for deed in value]):
        return False
    return len(set(value)) == len(value)


class Kind:
    """A base, a number of rows, a list of deeds and a greatest number of slips."""

    def __init__(self, base, rows, deeds, most):
        if not is_base(base):
            raise InvalidKind("the base is not an integer from 2 to 12")
        if not is_rows(rows):
            raise InvalidKind("the number of rows is not an integer from 1 to 4")
        if power(base, rows) > MOST_COLUMNS:
            raise InvalidKind("there are more than 1,000 different columns")
        if not _are_deeds(base, rows, deeds):
            raise InvalidKind("the deeds are not a list of 1 to 8 different deeds")
        if not is_whole(most, 1, MOST_SLIPS):
            raise InvalidKind("the greatest number of slips is not an integer from 1 to 3")
        self._base = base
        self._rows = rows
        self._deeds = [deed for deed in deeds_of(base, rows) if deed in deeds]
        self._most = most

    @property
    def base(self):
        """The base of the sheets."""
        return self._base

    @property
    def rows(self):
        """The number of rows of the sheets."""
        return self._rows

    @property
    def deeds(self):
        """A new list of the deeds, in their order."""
        return list(self._deeds)

    @property
    def most(self):
        """The greatest number of slips."""
        return self._most

    def __contains__(self, x):
        return is_deed(self._base, self._rows, x) and x in self._deeds

    def __or__(self, other):
        if not isinstance(other, Kind):
            return NotImplemented
        deeds = self._deeds + [deed for deed in other._deeds if deed not in self._deeds]
        most = self._most if self._most > other._most else other._most
        return _joined(self, other, deeds, most)

    def __and__(self, other):
        if not isinstance(other, Kind):
            return NotImplemented
        deeds = [deed for deed in self._deeds if deed in other._deeds]
        most = self._most if self._most < other._most else other._most
        return _joined(self, other, deeds, most)

    def within(self, other):
        """Whether all slips of this kind are slips of the other one."""
        if self._base != other._base or self._rows != other._rows or self._most > other._most:
            return False
        return all([deed in other._deeds for deed in self._deeds])

    def __eq__(self, other):
        if not isinstance(other, Kind):
            return False
        return (self._base == other._base and self._rows == other._rows
                and self._deeds == other._deeds and self._most == other._most)


def _joined(one, other, deeds, most):
    """The kind made of two kinds, with these deeds."""
    check_alike(one, other)
    if not 1 <= len(deeds) <= MOST_DEEDS:
        raise NotAlike("there is no deed or more than 8")
    return Kind(one.base, one.rows, deeds, most)
