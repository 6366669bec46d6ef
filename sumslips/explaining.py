"""Explaining: the slips with which a sheet is written so."""

from sumslips.alike import check_alike
from sumslips.divisors import check_lot
from sumslips.doing import do_columns, do_slip
from sumslips.errors import NotAlike
from sumslips.integers import place_value


def _gather(kind, columns, begun, fits, found):
    """Appends to found, in their order, the slips that begin so and with which the figures and the last carry fit.

    begun: a tuple (slips, figures that are written with them, carry, number of the first column that is not done).
    """
    slips, figures, carry, low = begun
    right, last = do_columns(kind.base, columns[low:], carry)
    if slips and fits(figures + right, last):
        found.append(slips)
    if len(slips) == kind.most:
        return
    for at in range(low, len(columns)):
        for deed in kind.deeds:
            done = do_slip(kind.base, columns, at, carry, deed)
            if done is not None:
                wrong, after, behind = done
                _gather(kind, columns, (slips + [(at, deed)], figures + wrong, after, behind), fits, found)
        right, carry = do_columns(kind.base, columns[at:at + 1], carry)
        figures = figures + right


def _slips_that(kind, sheet, fits):
    """All slips of a kind for a sheet with which the figures and the last carry fit, in their order."""
    found = []
    _gather(kind, sheet.columns, ([], [], 0, 0), fits, found)
    return found


def slips_for(kind, sheet, written):
    """All slips of a kind with which a sheet is written so, in their order."""
    check_alike(kind, sheet)
    if kind.base != written.base:
        raise NotAlike("the bases of the sheet and of the written result differ")
    wanted = written.figures
    carried = written.last
    return _slips_that(kind, sheet, lambda figures, last: figures == wanted and last == carried)


def slips_shown(kind, sheet, lot, shown):
    """All slips of a kind with which the result of a sheet leaves these rests by the divisors of a lot."""
    check_lot(lot)
    check_alike(kind, sheet)

    def leaves(figures, last):
        value = place_value(kind.base, figures, last)
        return [value % r for r in lot] == shown

    return _slips_that(kind, sheet, leaves)
