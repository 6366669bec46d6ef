"""Steps: what leads from a standing to the next one."""

from sumslips.doing import do_sum, sum_taken
from sumslips.integers import place_value, power


class Steps:
    """The steps of a person for a kind and a lot."""

    def __init__(self, kind, lot):
        self._base = kind.base
        self._most = kind.most
        self._copied = [deed[1] for deed in kind.deeds if deed[0] == "copy"]
        self._lot = list(lot)

    def start(self):
        """The standing at the beginning."""
        return (self._most, None, None, 0, 0, 0, tuple([(0, 1, 1) for _ in self._lot]))

    def kept(self, column):
        """The figures of a column that a copy at the next one may take."""
        return tuple([column[row] for row in self._copied])

    def may_slip(self, standing):
        """Whether a slip is left at a standing and no figure waits there."""
        left, waiting = standing[:2]
        return left > 0 and waiting is None

    def _do(self, standing, column, deed):
        """The figures that the column gives and the carry then, or None if the deed is not possible."""
        before, carry = standing[2:4]
        copied = None
        if deed is not None:
            if not self.may_slip(standing):
                return None
            if deed[0] == "copy":
                if before is None:
                    return None
                copied = before[self._copied.index(deed[1])]
        return do_sum(self._base, sum_taken(self._base, column, deed, copied), carry, deed)

    def lead(self, standing, column, deed):
        """The standing to which a column and a deed or None lead, or None if the deed is not possible."""
        done = self._do(standing, column, deed)
        if done is None:
            return None
        figures, after = done
        left, waiting, _, carry, gap, near, rests = standing
        tail = [] if waiting is None else [waiting]
        figures = figures + tail
        waits = deed is not None and deed[0] == "swap"
        total = sum(column)
        # What stands from the first place on that is not written yet: then, less now.
        grown = place_value(self._base, figures, after) - place_value(self._base, tail, carry)
        many = 0 if waits else len(figures)
        return (
            left if deed is None else left - 1,
            figures[0] if waits else None,
            self.kept(column),
            after,
            gap + many - 1,
            self._near(near, gap, total, grown, many),
            self._rests(rests, total, grown, many),
        )

    def _near(self, near, gap, total, grown, many):
        """The near that follows a near, where many figures are written."""
        # What is added is a multiple of the power by which near was divided: what was none stays none.
        if near is None:
            return None
        # The exponents of the column and of the place count from the lesser of the two.
        column = -gap if gap < 0 else 0
        place = gap if gap > 0 else 0
        near = near + grown * power(self._base, place) - total * power(self._base, column)
        unit = power(self._base, column + 1 if column + 1 < place + many else place + many)
        return near // unit if near % unit == 0 else None

    def _rests(self, rests, total, grown, many):
        """The rests that follow rests, where many figures are written."""
        wide = power(self._base, many)
        return tuple([
            ((gone + grown * place - total * column) % r, column * self._base % r, place * wide % r)
            for r, (gone, column, place) in zip(self._lot, rests)
        ])

    def lead_rightly(self, standing, columns):
        """The standing to which columns lead that are done rightly."""
        for column in columns:
            standing = self.lead(standing, column, None)
        return standing
