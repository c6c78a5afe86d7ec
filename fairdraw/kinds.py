"""Sheets by tables: the values that can be, a table for each row, and what the tables tell [25] [26] [27]."""

from fairdraw.errors import TooMany
from fairdraw.looking import product
from fairdraw.parts import value
from fairdraw.pushing import all_pushed, best_order
from fairdraw.spreading import names_read
from fairdraw.tables import gathered, places_of, told


def choices(lists):
    """All tuples that have one of each list."""
    found = [()]
    for some in lists:
        longer = []
        for choice in found:
            longer.extend([choice + (one,) for one in some])
        found = longer
    return found


def row_choices(row, found):
    """The choices of a let or seen row, each with the value that its expression has there.

    A choice is a tuple of what the names that the row reads stand for, in the order in which it reads them.
    """
    names = names_read(row)
    some = choices([found[name] for name in names])
    return [(numbers, value(row[-1], dict(zip(names, numbers)))) for numbers in some]


def kinds(sheet, most=500):
    """A dict that has for each name of a sheet the values that it can have at most."""
    found = {}
    for row in sheet[1]:
        if product([len(found[name]) for name in names_read(row)]) > most:
            raise TooMany(most)
        if row[0] == "draw":
            found[row[1]] = sorted([outcome[0] for outcome in row[2]])
        elif row[0] == "let":
            found[row[1]] = sorted(set([number for numbers, number in row_choices(row, found)]))
    return found


def table_of(row, found):
    """The table of one row of a sheet whose names have these kinds."""
    if row[0] == "draw":
        names = [row[1]]
        rows = [((number,), share) for number, share in row[2]]
    elif row[0] == "let":
        names = names_read(row) + [row[1]]
        rows = [(numbers + (number,), (1, 1)) for numbers, number in row_choices(row, found)]
    else:
        names = names_read(row)
        rows = [(numbers, (1, 1)) for numbers, number in row_choices(row, found) if number != 0]
    in_order = tuple(sorted(names))
    return (in_order, gathered(rows, places_of(names, in_order)))


def tables_of(sheet, most=500):
    """The tables of a sheet, one for each row."""
    found = kinds(sheet, most)
    return [table_of(row, found) for row in sheet[1]]


def by_tables(sheet, order=None, most=500):
    """The told shares of a sheet, the other names pushed out of its tables in that order or in the best one."""
    tables = tables_of(sheet, most)
    if order is None:
        order = best_order([list(table[0]) for table in tables], sheet[2])
    return told(all_pushed(tables, order, most), sheet[2])
