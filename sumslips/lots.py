"""Lots: which parts of a lot serve, and what parts two lots."""

from sumslips.divisors import check_lot
from sumslips.ends import is_end, is_wrong_end, seen_at
from sumslips.reach import Reach
from sumslips.searching import first_sheet


def _serves(part, seen):
    """Whether each wrong result is seen at a place of this part."""
    return all([any([place in part for place in places]) for places in seen])


def _has_part(places, parts):
    return any([all([place in places for place in part]) for part in parts])


def _least_parts(many, seen):
    """The least lists of places below many that serve, shorter ones first, then in their order."""
    least = []
    # What no place sees is missed by every part.
    parts = [] if [] in seen else [[]]
    while parts:
        least.extend([part for part in parts if _serves(part, seen)])
        # A part of which no part serves grows by a later place: so each comes once, and in order.
        lacking = [part for part in parts if part not in least]
        longer = [part + [place] for part in lacking for place in range(part[-1] + 1 if part else 0, many)]
        parts = [part for part in longer if not _has_part(part, least)]
    return least


def least_lots(kind, lot):
    """The least parts of a lot that miss no result."""
    check_lot(lot)
    seen = []
    for standing in Reach(kind, lot).standings:
        if is_wrong_end(standing) and seen_at(standing) not in seen:
            seen.append(seen_at(standing))
    return [[lot[place] for place in part] for part in _least_parts(len(lot), seen)]


def parting(kind, lot, other):
    """The first sheet and its first slips whose result is seen by just one of two lots, or None."""
    check_lot(lot)
    check_lot(other)
    both = lot + [r for r in other if r not in lot]
    reach = Reach(kind, both)
    wanted = []
    for standing in reach.standings:
        seen = [both[place] for place in seen_at(standing)]
        by_lot = any([r in lot for r in seen])
        by_other = any([r in other for r in seen])
        wanted.append(is_end(standing) and by_lot != by_other)
    return first_sheet(kind, reach, wanted)
