"""Sheets: programs whose rows go straight on, and programs spread to them [15] [16]."""

from fairdraw.parts import names_in, renamed


def names_read(row):
    """The names that a row of a sheet reads."""
    if row[0] == "draw":
        return []
    return names_in(row[-1])


def is_sheet(program):
    """Whether a program is a sheet."""
    given = {}
    for row in program[1]:
        if row[0] not in ("draw", "let", "seen"):
            return False
        if not all([name in given for name in names_read(row)]):
            return False
        if row[0] != "seen":
            if row[1] in given:
                return False
            given[row[1]] = True
    return len(program[0]) == 0 and all([name in given for name in program[2]])


class Spreader:
    """Lays a program's rows out one behind the other, through both branches of each `if`.

    A book tells for which value each known name stands; a guard is the value that is not 0 just where the rows
    would be gone through, or None where they always are.
    """

    def __init__(self, parts):
        self.parts = dict([(part[0], part) for part in parts])
        self.rows = []
        self.given = 0

    def new_value(self):
        """The name of one more value."""
        number = self.given
        self.given += 1
        return f"v{number}"

    def lay_let(self, e):
        """A new value that stands for an expression of values."""
        name = self.new_value()
        self.rows.append(("let", name, e))
        return name

    def lay_draw(self, outcomes):
        """A new value that is drawn."""
        name = self.new_value()
        self.rows.append(("draw", name, list(outcomes)))
        return name

    def lay_seen(self, e, guard):
        """What was seen, so that it holds where the guard is 0 too."""
        if guard is not None:
            e = ("or", ("not", ("name", guard)), ("name", self.lay_let(e)))
        self.rows.append(("seen", e))

    def lay_if(self, row, book, guard):
        """Both branches of an `if`, and a pick for each name that they leave unlike."""
        choice = ("name", self.lay_let(renamed(row[1], book)))
        first = dict(book)
        self.lay_rows(row[2], first, self.first_guard(choice, guard))
        second = dict(book)
        self.lay_rows(row[3], second, self.second_guard(choice, guard))
        # a name that one branch alone gives is in one of the two alone, and so forgotten
        for name in sorted(set(first) & set(second)):
            if first[name] != second[name]:
                sides = ("pick", choice, ("name", first[name]), ("name", second[name]))
                book[name] = self.lay_let(sides)

    def first_guard(self, choice, guard):
        """The guard of the first rows of an `if` of that choice."""
        if guard is None:
            return choice[1]
        return self.lay_let(("and", ("name", guard), choice))

    def second_guard(self, choice, guard):
        """The guard of the second rows of an `if` of that choice."""
        if guard is None:
            return self.lay_let(("not", choice))
        return self.lay_let(("and", ("name", guard), ("not", choice)))

    def lay_call(self, row, book, guard):
        """The value of a call's result."""
        part = self.parts[row[2]]
        inner = {}
        for parameter, e in zip(part[1], row[3]):
            inner[parameter] = self.lay_let(renamed(e, book))
        self.lay_rows(part[2], inner, guard)
        return self.lay_let(renamed(part[3], inner))

    def lay_row(self, row, book, guard):
        """One row of a program; the book tells then what names stand for behind it."""
        if row[0] == "draw":
            book[row[1]] = self.lay_draw(row[2])
        elif row[0] == "let":
            book[row[1]] = self.lay_let(renamed(row[2], book))
        elif row[0] == "seen":
            self.lay_seen(renamed(row[1], book), guard)
        elif row[0] == "if":
            self.lay_if(row, book, guard)
        elif row[0] == "rounds":
            for time in range(row[1]):
                self.lay_rows(row[2], book, guard)
        else:
            book[row[1]] = self.lay_call(row, book, guard)

    def lay_rows(self, rows, book, guard):
        """Rows of a program, one behind the other."""
        for row in rows:
            self.lay_row(row, book, guard)


def spread(program):
    """The sheet of a program."""
    spreader = Spreader(program[0])
    book = {}
    spreader.lay_rows(program[1], book, None)
    return ([], spreader.rows, [book[name] for name in program[2]])
