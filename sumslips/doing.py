"""Doings: what a person writes who does a column, and the carry then."""


def sum_taken(base, column, deed, copied):
    """The sum of the figures that a person takes who does a column with a deed, or rightly if it is None."""
    total = sum(column)
    if deed is None:
        return total
    if deed[0] == "read":
        figure = column[deed[1]]
        return total - figure + (figure + deed[2]) % base
    if deed[0] == "copy":
        return total - column[deed[1]] + copied
    return total


def do_sum(base, taken, carry, deed):
    """The figures that a column gives whose figures have this sum, and the carry then; None if not possible."""
    word = None if deed is None else deed[0]
    if word == "out":
        return [], carry
    total = taken + carry
    figure = total % base
    carry = total // base
    if word == "forget":
        return ([figure], 0) if carry > 0 else None
    if word == "again":
        return [figure], carry + 1
    if word == "off":
        return [(figure + deed[1]) % base], carry
    if word == "twice":
        total = taken + carry
        return [figure, total % base], total // base
    return [figure], carry


def do_columns(base, columns, carry):
    """The figures that columns write that are done rightly one after another, and the carry then."""
    figures = []
    for column in columns:
        right, carry = do_sum(base, sum(column), carry, None)
        figures.extend(right)
    return figures, carry


def do_slip(base, columns, at, carry, deed):
    """The figures that a slip at a column writes, the carry then and the column behind; None if not possible."""
    word = deed[0]
    if (word == "copy" and at == 0) or (word == "swap" and at + 1 == len(columns)):
        return None
    if word == "swap":
        # A swap does the next column too.
        figures, carry = do_columns(base, columns[at:at + 2], carry)
        return figures[::-1], carry, at + 2
    copied = columns[at - 1][deed[1]] if word == "copy" else None
    done = do_sum(base, sum_taken(base, columns[at], deed, copied), carry, deed)
    if done is None:
        return None
    figures, carry = done
    return figures, carry, at + 1
