"""Standings: where a person is who has done some columns of a sheet, with some slips in them."""

from sumslips.adding import is_slip
from sumslips.alike import check_alike
from sumslips.divisors import check_lot
from sumslips.errors import InvalidSlips, NotPossible
from sumslips.steps import Steps


def beginning(kind, lot):
    """The standing of a person who has done no column yet."""
    check_lot(lot)
    return Steps(kind, lot).start()


def behind(kind, lot, standing, column, deed):
    """The standing to which a column and a deed, or None, lead from a standing."""
    check_lot(lot)
    if deed is not None and deed not in kind:
        raise NotPossible("the deed is not one of the kind")
    led = Steps(kind, lot).lead(standing, column, deed)
    if led is None:
        raise NotPossible("the deed is not possible at this standing")
    return led


def standing_of(kind, lot, sheet, slips):
    """The standing behind a sheet that is done with these slips."""
    check_lot(lot)
    check_alike(kind, sheet)
    steps = Steps(kind, lot)
    columns = sheet.columns
    standing = steps.start()
    low = 0
    for index, item in enumerate(slips):
        if not is_slip(sheet, low, item) or item[1] not in kind:
            raise InvalidSlips(index)
        at, deed = item
        standing = steps.lead(steps.lead_rightly(standing, columns[low:at]), columns[at], deed)
        # The column behind a swap is refused here too: a figure waits there.
        if standing is None:
            raise InvalidSlips(index)
        low = at + 1
    return steps.lead_rightly(standing, columns[low:])
