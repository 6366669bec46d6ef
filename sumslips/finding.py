"""Finding: the first sheet whose wrong result is missed, or a list of standings that shows that there is none."""

from sumslips.divisors import check_lot
from sumslips.ends import is_missed_end
from sumslips.reach import Reach
from sumslips.searching import first_sheet


def missed(kind, lot):
    """The first missed sheet and its first slips, or None if no result is missed."""
    check_lot(lot)
    reach = Reach(kind, lot)
    return first_sheet(kind, reach, [is_missed_end(standing) for standing in reach.standings])


def closed_list(kind, lot):
    """A list of standings that shows that no result is missed, or None if one is."""
    check_lot(lot)
    standings = Reach(kind, lot).standings
    if any([is_missed_end(standing) for standing in standings]):
        return None
    return list(standings)


def is_closed(kind, lot, standings):
    """Whether standings that can come show that no result is missed."""
    check_lot(lot)
    coming = Reach(kind, lot).standings
    if any([is_missed_end(standing) for standing in coming]):
        return False
    # A list that has the beginning and all that what it has leads to has all that can come.
    return set(standings) == set(coming)
