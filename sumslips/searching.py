"""Searching: the first columns and slips that lead from one standing to a wanted one."""

from sumslips.sheets import Sheet


def _layers(reach, start, wanted):
    """The numbers that are first come to behind 0, 1, .. columns, until a wanted one is there; None if none is."""
    layers = [[start]]
    known = {start: True}
    while not any([wanted[number] for number in layers[-1]]):
        layer = []
        for number in layers[-1]:
            for after in reach.nexts[number]:
                if after not in known:
                    known[after] = True
                    layer.append(after)
        if not layer:
            return None
        layers.append(layer)
    return layers


def _able(reach, layers, wanted):
    """Of each layer the numbers from which a wanted one of the last layer can be come to."""
    able = [{number: True for number in layers[-1] if wanted[number]}]
    for layer in layers[-2::-1]:
        good = able[-1]
        able.append({number: True for number in layer if any([after in good for after in reach.nexts[number]])})
    return able[::-1]


def _leads(reach, number, column):
    """The numbers to which a column leads, rightly done or with a deed."""
    told = [reach.lead(number, column, deed) for deed, _ in reach.choices_at(number)]
    return [after for after in told if after is not None]


def _first_column(reach, here, good):
    """The first column that leads from one of these numbers to a good one."""
    first = None
    for number in here:
        for deed, groups in reach.choices_at(number):
            for column, _ in groups:
                if first is not None and column >= first:
                    break
                if reach.lead(number, column, deed) in good:
                    first = column
    return first


def _first_columns(reach, able):
    columns = []
    here = able[0]
    for good in able[1:]:
        column = _first_column(reach, here, good)
        here = {after: True for number in here for after in _leads(reach, number, column) if after in good}
        columns.append(column)
    return columns


def _able_by(reach, able, columns):
    """Of each layer the able numbers from which just these columns lead to a wanted one."""
    kept = [able[-1]]
    for at in range(len(columns) - 1, -1, -1):
        good = kept[-1]
        kept.append({
            number: True for number in able[at]
            if any([after in good for after in _leads(reach, number, columns[at])])
        })
    return kept[::-1]


def _first_slip(reach, able, columns, at, number):
    """A tuple (column, deed, number behind it) from column at on, or None if no slip is needed from there on."""
    rightly = [number]
    for column in columns[at:]:
        rightly.append(reach.lead(rightly[-1], column, None))
    if rightly[-1] in able[-1]:
        return None
    for place in range(at, len(columns)):
        for deed, _ in reach.choices[1:]:
            after = reach.lead(rightly[place - at], columns[place], deed)
            if after in able[place + 1]:
                return place, deed, after
    return None


def _first_slips(reach, able, columns, start):
    slips = []
    found = _first_slip(reach, able, columns, 0, start)
    while found is not None:
        place, deed, number = found
        slips.append((place, deed))
        found = _first_slip(reach, able, columns, place + 1, number)
    return slips


def first_way(reach, start, wanted):
    """The first columns of all, and the first slips at them, that lead from a standing to a wanted one.

    start is the number of the standing, wanted tells of each number whether it is wanted. A tuple (columns, slips),
    the first column with the number 0, or None if nothing wanted can come.
    """
    layers = _layers(reach, start, wanted)
    if layers is None:
        return None
    able = _able(reach, layers, wanted)
    columns = _first_columns(reach, able)
    return columns, _first_slips(reach, _able_by(reach, able, columns), columns, start)


def first_sheet(kind, reach, wanted):
    """The first sheet and its first slips that lead from the beginning to a wanted standing, or None."""
    found = first_way(reach, 0, wanted)
    if found is None:
        return None
    columns, slips = found
    return Sheet(kind.base, kind.rows, columns), slips
