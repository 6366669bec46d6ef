"""Deeds: what a person does at a column in place of doing it rightly."""


def deeds_of(base, rows):
    """All deeds for this base and these rows, in the order in which a kind keeps them."""
    offs = [("off", by) for by in range(1, base)]
    reads = [("read", row, by) for row in range(rows) for by in range(1, base)]
    copies = [("copy", row) for row in range(rows)]
    return [("forget",), ("again",), *offs, *reads, *copies, ("swap",), ("out",), ("twice",)]


def _is_plain(value):
    if not isinstance(value, tuple):
        return False
    return all([isinstance(item, (int, str)) and not isinstance(item, bool) for item in value])


def is_deed(base, rows, value):
    """Whether a value of any kind is a deed for this base and these rows."""
    # True and 1.0 are equal to 1, but they are not the integer that a deed has.
    return _is_plain(value) and value in deeds_of(base, rows)
