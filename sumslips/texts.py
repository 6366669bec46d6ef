"""Texts of sheets and of slips."""

from sumslips.deeds import deeds_of
from sumslips.errors import InvalidSheet, InvalidText
from sumslips.integers import MOST_BASE, MOST_ROWS
from sumslips.numerals import read_figures, read_integer, show_figures, show_integer
from sumslips.sheets import Sheet


def show_sheet(sheet):
    """The text of a sheet."""
    rows = [show_figures([column[row] for column in sheet.columns]) for row in range(sheet.rows)]
    return " ".join([f"{sheet.base}:"] + rows)


def _read_row(word):
    """The figures of a row from column 0 on, or None if the string is no row."""
    if word == "-":
        return []
    figures = read_figures(word)
    return None if figures is None else figures[::-1]


def read_sheet(text):
    """The sheet that has this text."""
    if not isinstance(text, str):
        raise InvalidText("the value is not a string")
    head, *words = text.split(" ")
    rows = [_read_row(word) for word in words]
    if not head.endswith(":") or None in rows or any([len(row) != len(rows[0]) for row in rows]):
        raise InvalidText("the string is not a base and rows of equal length")
    columns = list(zip(*rows))
    try:
        return Sheet(read_integer(head[:-1]), len(rows), columns)
    except InvalidSheet:
        raise InvalidText("the base, the number of rows or a figure is out of bounds") from None


def show_deed(deed):
    """The text of a deed."""
    return " ".join([deed[0]] + [show_integer(number) for number in deed[1:]])


def read_deed(text):
    """The deed that has this text, for the base and the rows with the most deeds, or None if there is none."""
    for deed in deeds_of(MOST_BASE, MOST_ROWS):
        if show_deed(deed) == text:
            return deed
    return None


def show_slips(slips):
    """The text of slips."""
    if not slips:
        return "-"
    return ", ".join([f"{show_integer(column)} {show_deed(deed)}" for column, deed in slips])


def read_slips(text):
    """The tuples (column, deed) that have this text."""
    if not isinstance(text, str):
        raise InvalidText("the value is not a string")
    if text == "-":
        return []
    slips = []
    low = 0
    for item in text.split(", "):
        word, _, told = item.partition(" ")
        column = read_integer(word)
        deed = read_deed(told)
        if column is None or column < low or deed is None:
            raise InvalidText("the string is not a list of ascending columns with deeds")
        slips.append((column, deed))
        low = column + 1
    return slips
