"""Numerals: integers and figures as they are written."""

FIGURES = "0123456789ab"
DIGITS = "0123456789"

# Python itself neither shows nor reads an integer of more than 4,300 digits, so this is done piece by piece.
PIECE = 1000000000


def show_integer(number):
    """An integer from 0 on, in decimal."""
    pieces = []
    while number >= PIECE:
        pieces.append(str(number % PIECE).zfill(9))
        number = number // PIECE
    pieces.append(str(number))
    return "".join(pieces[::-1])


def read_integer(word):
    """The integer of a string in decimal without leading zeros, or None if it is no such string."""
    if not word or (word[0] == "0" and word != "0"):
        return None
    number = 0
    for digit in word:
        if digit not in DIGITS:
            return None
        number = number * 10 + DIGITS.index(digit)
    return number


def show_figures(figures):
    """Figures from the units on, the last one first, or a dash if there are none."""
    if not figures:
        return "-"
    return "".join([FIGURES[figure] for figure in figures[::-1]])


def read_figures(word):
    """The figures of a string, in its order, or None if it is empty or has another character."""
    if not word or not all([sign in FIGURES for sign in word]):
        return None
    return [FIGURES.index(sign) for sign in word]
