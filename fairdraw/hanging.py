"""What hangs on what in a sheet: the draws behind values, and those tied by what was seen [33] [34] [35]."""

from fairdraw.pushing import neighbours
from fairdraw.spreading import names_read


def draws_read(row, found):
    """The draws behind the names that a row reads; found has those behind each name."""
    names = []
    for name in names_read(row):
        names.extend(found[name])
    return sorted(set(names))


def draws_behind(sheet):
    """A dict that has for each value of a sheet the draws behind it."""
    found = {}
    for row in sheet[1]:
        if row[0] == "draw":
            found[row[1]] = [row[1]]
        elif row[0] == "let":
            found[row[1]] = draws_read(row, found)
    return found


def behind(sheet, name):
    """The draws behind a value of a sheet."""
    return draws_behind(sheet)[name]


def ties(sheet, found):
    """A dict that has for each draw of a sheet those tied to it, as a dict of True."""
    # a draw that no seen row has is to be there too
    scopes = [[row[1]] for row in sheet[1] if row[0] == "draw"]
    scopes.extend([draws_read(row, found) for row in sheet[1] if row[0] == "seen"])
    return neighbours(scopes)


def ways_from(some, tied):
    """A dict that has for each draw to which ties lead from some draws, these too, a shortest list that leads there.

    Those with shorter lists come first in it.
    """
    lists = dict([(draw, [draw]) for draw in some])
    left = list(lists)
    while len(left) > 0:
        draw = left.pop(0)
        for other in tied[draw]:
            if other not in lists:
                lists[other] = lists[draw] + [other]
                left.append(other)
    return lists


def groups(sheet):
    """The groups of a sheet's draws."""
    tied = ties(sheet, draws_behind(sheet))
    placed = {}
    found = []
    for draw in sorted(tied):
        if draw not in placed:
            group = sorted(ways_from([draw], tied))
            placed.update([(other, True) for other in group])
            found.append(group)
    return found


def link(sheet, one, other):
    """A list of draws that links two values of a sheet, or None where they are free of each other."""
    found = draws_behind(sheet)
    lists = ways_from(found[one], ties(sheet, found))
    for draw in lists:
        if draw in found[other]:
            return lists[draw]
    return None


def free(sheet, one, other):
    """Whether two values of a sheet are free of each other."""
    return link(sheet, one, other) is None
