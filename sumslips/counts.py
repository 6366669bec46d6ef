"""Counts: how many results are written for all sheets with so many columns, and how many of them are missed."""

from sumslips.divisors import check_lot
from sumslips.ends import is_missed_end, is_slipped_end, is_wrong_end
from sumslips.reach import Reach


def _ways(reach, many):
    """For each number of a standing, with how many sheets and slips it is come to behind so many columns."""
    ways = [0] * len(reach.standings)
    ways[0] = 1
    for _ in range(many):
        after = [0] * len(ways)
        for number, times in enumerate(ways):
            if times:
                for follower, each in reach.nexts[number].items():
                    after[follower] += times * each
        ways = after
    return ways


def counts(kind, lot, *, columns):
    """How many sheets with slips have so many columns: all, those with a harmless and those with a missed result."""
    check_lot(lot)
    reach = Reach(kind, lot)
    total = harmless = missed = 0
    for standing, times in zip(reach.standings, _ways(reach, columns)):
        if is_slipped_end(standing, kind.most):
            total += times
            harmless += 0 if is_wrong_end(standing) else times
            missed += times if is_missed_end(standing) else 0
    return total, harmless, missed
