"""A second way to add with slips, from the words of the document, to compare the program with."""

from itertools import combinations, product


def all_columns(base, rows):
    """All columns, in the order of tuples."""
    return list(product(range(base), repeat=rows))


def all_deeds(base, rows):
    """All deeds, in the order of promise 9."""
    deeds = [("forget",), ("again",)]
    for by in range(1, base):
        deeds.append(("off", by))
    for row in range(rows):
        for by in range(1, base):
            deeds.append(("read", row, by))
    for row in range(rows):
        deeds.append(("copy", row))
    return deeds + [("swap",), ("out",), ("twice",)]


def all_slips(base, rows, many, most):
    """All lists of at most so many tuples (column, deed) with ascending columns below many."""
    deeds = all_deeds(base, rows)
    for length in range(most + 1):
        for columns in combinations(range(many), length):
            for told in product(deeds, repeat=length):
                yield list(zip(columns, told))


class Refused(Exception):
    def __init__(self, index):
        self.index = index


class Person:
    """A person who adds a sheet, doing by doing, and the value that the effects of promise 8 give."""

    def __init__(self, base, columns):
        self.base = base
        self.columns = columns
        self.figures = []
        self.carry = 0
        self.value = 0

    def do(self, column):
        total = sum(column) + self.carry
        self.value += sum(column) * self.base ** len(self.figures)
        self.figures.append(total % self.base)
        self.carry = total // self.base

    def do_with(self, at, deed, index):
        """Does a column with a deed; how many columns of the sheet are behind the person then."""
        base, column = self.base, self.columns[at]
        if deed[0] == "forget":
            self.do(column)
            if self.carry < 1:
                raise Refused(index)
            self.value -= self.carry * base ** len(self.figures)
            self.carry = 0
        elif deed[0] == "again":
            self.do(column)
            self.value += base ** len(self.figures)
            self.carry += 1
        elif deed[0] == "off":
            self.do(column)
            f = self.figures[-1]
            g = (f + deed[1]) % base
            self.figures[-1] = g
            self.value += (g - f) * base ** (len(self.figures) - 1)
        elif deed[0] == "read":
            read = list(column)
            read[deed[1]] = (read[deed[1]] + deed[2]) % base
            self.do(read)
        elif deed[0] == "copy":
            if at == 0:
                raise Refused(index)
            copied = list(column)
            copied[deed[1]] = self.columns[at - 1][deed[1]]
            self.do(copied)
        elif deed[0] == "swap":
            if at + 1 >= len(self.columns):
                raise Refused(index)
            self.do(column)
            self.do(self.columns[at + 1])
            f, g = self.figures[-2:]
            self.figures[-2:] = [g, f]
            self.value += (f - g) * (base - 1) * base ** (len(self.figures) - 2)
            return at + 2
        elif deed[0] == "twice":
            self.do(column)
            self.do(column)
        return at + 1


def add(base, columns, slips):
    """A tuple (figures, last, value by the effects); raises Refused."""
    person = Person(base, columns)
    at = 0
    for index, (column, deed) in enumerate(slips):
        if column < at:
            raise Refused(index)
        for right in columns[at:column]:
            person.do(right)
        at = person.do_with(column, deed, index)
    for right in columns[at:]:
        person.do(right)
    return person.figures, person.carry, person.value


def value_of(base, columns):
    """The right result."""
    return sum(sum(column) * base ** i for i, column in enumerate(columns))


def slips_of(kind, columns):
    """The slips of a kind for a sheet with these columns, in the order of promise 9."""
    found = []
    for length in range(1, kind.most + 1):
        for places in combinations(range(len(columns)), length):
            for told in product(kind.deeds, repeat=length):
                slips = list(zip(places, told))
                try:
                    add(kind.base, columns, slips)
                except Refused:
                    continue
                found.append(slips)
    return sorted(found, key=lambda slips: [(column, kind.deeds.index(deed)) for column, deed in slips])


def standing(kind, lot, columns, slips):
    """The standing behind columns that are done with these slips, from the words of promise 11; raises Refused."""
    base = kind.base
    done, waiting = columns, None
    if slips and slips[-1] == (len(columns) - 1, ("swap",)):
        done = columns[:-1]
        figures, carry, _ = add(base, done, slips[:-1])
        total = sum(columns[-1]) + carry
        waiting, carry = total % base, total // base
    else:
        figures, carry, _ = add(base, columns, slips)
    i, w = len(columns), len(figures)
    told = figures if waiting is None else figures + [waiting]
    e = sum(figure * base ** p for p, figure in enumerate(told)) + carry * base ** len(told) - value_of(base, columns)
    unit = base ** min(i, w)
    copied = sorted(deed[1] for deed in kind.deeds if deed[0] == "copy")
    return (
        kind.most - len(slips),
        waiting,
        tuple(columns[-1][row] for row in copied) if columns else None,
        carry,
        w - i,
        None if e % unit else e // unit,
        tuple((e % r, base ** i % r, base ** w % r) for r in lot),
    )


def standings(kind, lot, most):
    """All standings that can come, at most so many and one more, each with columns and slips that lead to it."""
    found = {standing(kind, lot, [], []): ([], [])}
    waiting = list(found)
    for told in waiting:
        before, slips = found[told]
        for column in all_columns(kind.base, kind.rows):
            columns = before + [column]
            for more in [[]] + [[(len(before), deed)] for deed in kind.deeds]:
                if len(slips) + len(more) > kind.most:
                    continue
                try:
                    led = standing(kind, lot, columns, slips + more)
                except Refused:
                    continue
                if led not in found:
                    found[led] = columns, slips + more
                    waiting.append(led)
                    if len(found) > most:
                        return found
    return found


def gaps(kind, columns):
    """A tuple (slips, value of the result less value of the sheet) for each of the slips of a kind, in their order."""
    right = value_of(kind.base, columns)
    return [(slips, add(kind.base, columns, slips)[2] - right) for slips in slips_of(kind, columns)]


def sees(lot, gap):
    """Whether a lot sees a result that differs by so much."""
    return any(gap % r != 0 for r in lot)


def is_missed(lot, gap):
    return gap != 0 and not sees(lot, gap)


def first(kind, many, wanted):
    """The first sheet of at most so many columns, as a list, and its first slips with a wanted gap, or None."""
    for length in range(many + 1):
        for columns in product(all_columns(kind.base, kind.rows), repeat=length):
            for slips, gap in gaps(kind, list(columns)):
                if wanted(gap):
                    return list(columns), slips
    return None


def count(kind, lot, many):
    """The three numbers of promise 15, by trying."""
    told = [0, 0, 0]
    for columns in product(all_columns(kind.base, kind.rows), repeat=many):
        for _, gap in gaps(kind, list(columns)):
            told[0] += 1
            told[1] += gap == 0
            told[2] += is_missed(lot, gap)
    return tuple(told)


def explain(kind, columns, fits):
    """The slips of a kind, in their order, whose figures and last carry fit."""
    return [slips for slips in slips_of(kind, columns) if fits(*add(kind.base, columns, slips)[:2])]


def written_value(base, figures, last):
    """The value that is written."""
    return sum(figure * base ** p for p, figure in enumerate(figures + [last]))


def more_slips(kind, low, high, most):
    """All lists of at most so many tuples (column, deed of the kind) from column low on and below high, in order."""
    found = []
    for length in range(most + 1):
        for places in combinations(range(low, high), length):
            for told in product(kind.deeds, repeat=length):
                found.append(list(zip(places, told)))
    return sorted(found, key=lambda slips: [(column, kind.deeds.index(deed)) for column, deed in slips])


def next_missed(kind, lot, columns, slips, many):
    """At most so many columns that follow, and slips at them, such that the result is missed: the first, or None."""
    for length in range(many + 1):
        for follow in product(all_columns(kind.base, kind.rows), repeat=length):
            after = columns + list(follow)
            for more in more_slips(kind, len(columns), len(after), kind.most - len(slips)):
                try:
                    value = add(kind.base, after, slips + more)[2]
                except Refused:
                    continue
                if is_missed(lot, value - value_of(kind.base, after)):
                    return list(follow), more
    return None
