"""Writing fractions, expressions and programs as texts [9] [11]."""

# how much each sign binds; what is not here binds most
BINDS = {"or": 1, "and": 2, "not": 3, "<": 4, "=": 4, "+": 5, "-": 5}
SINGLE = 6


def show_fraction(one):
    """A fraction as TOP/BOTTOM."""
    top = one[0]
    bottom = one[1]
    return f"{top}/{bottom}"


def show_side(e, least):
    """An expression beside a sign, in brackets where it binds less than least."""
    text = show_expression(e)
    if BINDS.get(e[0], SINGLE) < least:
        return f"({text})"
    return text


def show_pair(e):
    """An expression of a sign of two."""
    sign = e[0]
    binds = BINDS[sign]
    # comparisons alone are not taken from the left
    left = show_side(e[1], binds + 1 if sign in ("<", "=") else binds)
    right = show_side(e[2], binds + 1)
    return f"{left} {sign} {right}"


def show_expression(e):
    """The text of an expression, with the fewest brackets."""
    if e[0] == "num":
        return str(e[1])
    if e[0] == "name":
        return e[1]
    if e[0] == "not":
        side = show_side(e[1], BINDS["not"])
        return f"not {side}"
    if e[0] == "pick":
        sides = show_expressions(e[1:])
        return f"pick({sides})"
    return show_pair(e)


def show_expressions(some):
    """Expressions parted by commas."""
    return ", ".join([show_expression(e) for e in some])


def show_outcome(outcome):
    """An outcome of a draw."""
    value = outcome[0]
    share = show_fraction(outcome[1])
    return f"{value} by {share}"


def show_draw(row):
    """A draw row."""
    name = row[1]
    outcomes = ", ".join([show_outcome(outcome) for outcome in row[2]])
    return f"draw {name}: {outcomes}"


def show_let(row):
    """A let row."""
    name = row[1]
    text = show_expression(row[2])
    return f"let {name} = {text}"


def show_call(row):
    """A call row."""
    name = row[1]
    called = row[2]
    sides = show_expressions(row[3])
    return f"call {name} = {called}({sides})"


def write_if(row):
    """The rows of the text of an `if`."""
    text = show_expression(row[1])
    rows = [f"if {text}"] + write_rows(row[2])
    if len(row[3]) > 0:
        rows = rows + ["else"] + write_rows(row[3])
    return rows + ["end"]


def write_row(row):
    """The rows of the text of one row of a program."""
    if row[0] == "draw":
        return [show_draw(row)]
    if row[0] == "let":
        return [show_let(row)]
    if row[0] == "call":
        return [show_call(row)]
    if row[0] == "seen":
        text = show_expression(row[1])
        return [f"seen {text}"]
    if row[0] == "if":
        return write_if(row)
    number = row[1]
    return [f"rounds {number}"] + write_rows(row[2]) + ["end"]


def write_rows(rows):
    """The rows of the text of a list of rows."""
    texts = []
    for row in rows:
        texts.extend(write_row(row))
    return texts


def write_part(part):
    """The rows of the text of a part of a program."""
    name = part[0]
    parameters = ", ".join(part[1])
    result = show_expression(part[3])
    return [f"part {name}({parameters})"] + write_rows(part[2]) + [f"give {result}"]


def write(program):
    """The text of a program."""
    texts = []
    for part in program[0]:
        texts.extend(write_part(part))
    names = ", ".join(program[2])
    return "\n".join(texts + write_rows(program[1]) + [f"tell {names}"])
