"""Divisors: what makes a lot."""

from sumslips.errors import InvalidLot


def _is_divisor(value):
    # True and False are below 2.
    return isinstance(value, int) and value >= 2


def check_lot(value):
    """Refuses a value of any kind that is not a list of different integers from 2 on."""
    if not isinstance(value, list) or not all([_is_divisor(item) for item in value]):
        raise InvalidLot("the lot is not a list of integers from 2 on")
    if len(set(value)) != len(value):
        raise InvalidLot("the lot has a divisor twice")
