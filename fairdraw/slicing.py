"""The slice of a sheet: the rows on which its told shares hang [37]."""

from fairdraw.hanging import draws_behind, draws_read, ties, ways_from
from fairdraw.spreading import names_read


def draws_that_count(sheet, found):
    """The draws of all groups that have one behind a told value, as a dict; found has those behind each value."""
    told_draws = []
    for name in sheet[2]:
        told_draws.extend(found[name])
    return ways_from(told_draws, ties(sheet, found))


def copied(row):
    """A row of a sheet that has its lists for itself."""
    if row[0] == "draw":
        return ("draw", row[1], list(row[2]))
    return row


def sliced(sheet):
    """The slice of a sheet."""
    found = draws_behind(sheet)
    counting = draws_that_count(sheet, found)
    wanted = dict([(name, True) for name in sheet[2]])
    rows = []
    # from the end on all rows that read a name are met ahead of the row that gives it
    for row in reversed(sheet[1]):
        if row[0] == "seen":
            is_kept = any([draw in counting for draw in draws_read(row, found)])
        else:
            is_kept = row[1] in wanted
        if is_kept:
            rows.append(copied(row))
            wanted.update([(name, True) for name in names_read(row)])
    return ([], list(reversed(rows)), list(sheet[2]))
