"""Commands: what the strings ask for that a console is given."""

from sumslips.errors import InvalidCommand
from sumslips.numerals import read_figures, read_integer
from sumslips.texts import read_deed

# The commands that are one word.
BARE = ("begin", "sheet", "slips", "result", "missed")

# The greatest number of columns that are counted or taken back by one command.
MOST_AT_ONCE = 200


def _read_kind(words):
    """A tuple (base, rows, most, deeds), or None."""
    if len(words) < 4:
        return None
    base, rows, most = [read_integer(word) for word in words[:3]]
    deeds = [read_deed(text) for text in " ".join(words[3:]).split(", ")]
    if base is None or rows is None or most is None or None in deeds:
        return None
    return base, rows, most, deeds


def _read_lot(words):
    """A list of divisors, or None."""
    if words == ["-"]:
        return []
    lot = [read_integer(word) for word in words]
    return None if not lot or None in lot else lot


def _read_put(words):
    """A tuple (column, deed or None), or None."""
    if not words:
        return None
    figures = read_figures(words[0])
    deed = read_deed(" ".join(words[1:]))
    if figures is None or (deed is None and len(words) > 1):
        return None
    return tuple(figures), deed


def _read_many(words):
    """A number of columns, or None."""
    if len(words) != 1:
        return None
    many = read_integer(words[0])
    return None if many is None or many > MOST_AT_ONCE else many


def _read_words(word, words):
    """What stands behind the first word, as its values, or None if the words do not have the form of a command."""
    if word in BARE:
        return None if words else ()
    if word == "kind":
        return _read_kind(words)
    if word == "lot":
        return _read_lot(words)
    if word == "put":
        return _read_put(words)
    if word == "back" or word == "count":
        return _read_many(words)
    return None


def read_command(command):
    """A tuple (first word, values behind it) of a value of any kind that has the form of a command."""
    if not isinstance(command, str):
        raise InvalidCommand("the value is not a string")
    word, *words = command.split(" ")
    told = _read_words(word, words)
    if told is None:
        raise InvalidCommand("the string does not have the form of a command")
    return word, told
