"""Integers, and figures at their places."""

MOST_BASE = 12
MOST_ROWS = 4


def is_whole(value, low, high):
    """Whether a value of any kind is an integer from low to high."""
    # Python counts True and False among the integers, the package does not.
    return isinstance(value, int) and not isinstance(value, bool) and low <= value <= high


def is_base(value):
    """Whether a value of any kind is the base of a sheet or of a kind."""
    return is_whole(value, 2, MOST_BASE)


def is_rows(value):
    """Whether a value of any kind is the number of rows of a sheet or of a kind."""
    return is_whole(value, 1, MOST_ROWS)


def power(base, exponent):
    """The base to the exponent, an integer from 0 on."""
    result = 1
    for _ in range(exponent):
        result = result * base
    return result


def place_value(base, figures, last):
    """The sum of the figures at their places, the units first, and of last at the place behind them."""
    value = last
    for figure in figures[::-1]:
        value = value * base + figure
    return value
