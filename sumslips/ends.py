"""Ends: standings behind which a sheet may end, and the result there."""

# The parts of a standing that tell of its result, by their indexes in the tuple.
LEFT = 0
WAITING = 1
NEAR = 5
RESTS = 6


def is_end(standing):
    """Whether no figure waits, so that a result is written."""
    return standing[WAITING] is None


def is_slipped_end(standing, most):
    """Whether a result is written with at least one slip, where so many may be made."""
    return is_end(standing) and standing[LEFT] < most


def is_wrong_end(standing):
    """Whether the value of the result is not the value of the sheet."""
    return is_end(standing) and standing[NEAR] != 0


def seen_at(standing):
    """The places of the divisors of the lot that see the result."""
    return [place for place, rest in enumerate(standing[RESTS]) if rest[0] != 0]


def is_missed_end(standing):
    """Whether the result is wrong and no divisor of the lot sees it."""
    return is_wrong_end(standing) and not seen_at(standing)
