"""A second way to add with slips, from the words of the document, to compare the program with."""

from itertools import combinations, product


def all_columns(base, rows):
    """All columns, in the order of tuples."""
    return list(product(range(base), repeat=rows))


def all_deeds(base, rows):
    """All deeds, in the order of promise 9."""
    deeds = [("forget",), ("again",)]
    for by in range(1, base):
        deeds.append(("off", by))
    for row in range(rows):
        for by in range(1, base):
            deeds.append(("read", row, by))
    for row in range(rows):
        deeds.append(("copy", row))
    return deeds + [("swap",), ("out",), ("twice",)]


def all_slips(base, rows, many, most):
    """All lists of at most so many tuples (column, deed) with ascending columns below many."""
    deeds = all_deeds(base, rows)
    for length in range(most + 1):
        for columns in combinations(range(many), length):
            for told in product(deeds, repeat=length):
                yield list(zip(columns, told))


class Refused(Exception):
    def __init__(self, index):
        self.index = index


class Person:
    """A person who adds a sheet, doing by doing, and the value that the effects of promise 8 give."""

    def __init__(self, base, columns):
        self.base = base
        self.columns = columns
        self.figures = []
        self.carry = 0
        self.value = 0

    def do(self, column):
        total = sum(column) + self.carry
        self.value += sum(column) * self.base ** len(self.figures)
        self.figures.append(total % self.base)
        self.carry = total // self.base

    def do_with(self, at, deed, index):
        """Does a column with a deed; how many columns of the sheet are behind the person then."""
        base, column = self.base, self.columns[at]
        if deed[0] == "forget":
            self.do(column)
            if self.carry < 1:
                raise Refused(index)
            self.value -= self.carry * base ** len(self.figures)
            self.carry = 0
        elif deed[0] == "again":
            self.do(column)
            self.value += base ** len(self.figures)
            self.carry += 1
        elif deed[0] == "off":
            self.do(column)
            f = self.figures[-1]
            g = (f + deed[1]) % base
            self.figures[-1] = g
            self.value += (g - f) * base ** (len(self.figures) - 1)
        elif deed[0] == "read":
            read = list(column)
            read[deed[1]] = (read[deed[1]] + deed[2]) % base
            self.do(read)
        elif deed[0] == "copy":
            if at == 0:
                raise Refused(index)
            copied = list(column)
            copied[deed[1]] = self.columns[at - 1][deed[1]]
            self.do(copied)
        elif deed[0] == "swap":
            if at + 1 >= len(self.columns):
                raise Refused(index)
            self.do(column)
            self.do(self.columns[at + 1])
            f, g = self.figures[-2:]
            self.figures[-2:] = [g, f]
            self.value += (f - g) * (base - 1) * base ** (len(self.figures) - 2)
            return at + 2
        elif deed[0] == "twice":
            self.do(column)
            self.do(column)
        return at + 1


def add(base, columns, slips):
    """A tuple (figures, last, value by the effects); raises Refused."""
    person = Person(base, columns)
    at = 0
    for index, (column, deed) in enumerate(slips):
        if column < at:
            raise Refused(index)
        for right in columns[at:column]:
            person.do(right)
        at = person.do_with(column, deed, index)
    for right in columns[at:]:
        person.do(right)
    return person.figures, person.carry, person.value
