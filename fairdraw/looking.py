"""Looking at programs: which names are known, what is refused, how great a program is [8] [13] [14]."""

from fairdraw.errors import NoCall, NoName, NoShares, TooMany, Twice
from fairdraw.fractions import total
from fairdraw.parts import names_in

GIVING = ("draw", "let", "call")
MOST_STEPS = 400
MOST_DRAWS = 60


def known(rows, before):
    """The names known behind rows, sorted, of those known ahead of them."""
    names = list(before)
    # no row forgets what was known ahead of it, so what a block brings to it hangs neither
    # on what was known ahead nor on how often rounds go, once they go at all
    for row in rows:
        if row[0] in GIVING:
            names.append(row[1])
        elif row[0] == "if":
            names.extend(sorted(set(known(row[2], [])) & set(known(row[3], []))))
        elif row[0] == "rounds" and row[1] > 0:
            names.extend(known(row[2], []))
    return sorted(set(names))


def names_given(rows):
    """The names that are given anywhere in rows, sorted."""
    names = []
    for row in rows:
        if row[0] in GIVING:
            names.append(row[1])
        elif row[0] == "if":
            names.extend(names_given(row[2] + row[3]))
        elif row[0] == "rounds":
            names.extend(names_given(row[2]))
    return sorted(set(names))


def row_steps(row, by_part):
    """The steps of one row; by_part has those of each part that it may call."""
    if row[0] == "seen":
        return 2
    if row[0] == "if":
        both = row[2] + row[3]
        return 3 + rows_steps(both, by_part) + len(names_given(both))
    if row[0] == "rounds":
        return row[1] * (1 + rows_steps(row[2], by_part))
    if row[0] == "call":
        return 1 + len(row[3]) + by_part[row[2]]
    return 1


def rows_steps(rows, by_part):
    """The steps of rows."""
    return sum([row_steps(row, by_part) for row in rows])


def row_draws(row, by_part):
    """The draws of one row; by_part has those of each part that it may call."""
    if row[0] == "draw":
        return 1
    if row[0] == "if":
        return rows_draws(row[2] + row[3], by_part)
    if row[0] == "rounds":
        return row[1] * rows_draws(row[2], by_part)
    if row[0] == "call":
        return by_part[row[2]]
    return 0


def rows_draws(rows, by_part):
    """The draws of rows."""
    return sum([row_draws(row, by_part) for row in rows])


def measured(program, measure):
    """What a measure tells of a program's own rows.

    Each part is measured once, behind the parts that it calls: going into it at each call could take too long.
    """
    by_part = {}
    for part in program[0]:
        by_part[part[0]] = measure(part[2], by_part)
    return measure(program[1], by_part)


def steps(program):
    """The steps of a program."""
    return measured(program, rows_steps)


def draws(program):
    """The draws of a program."""
    return measured(program, rows_draws)


def row_ways(row, parts):
    """The ways of one row; parts has the rows of each part.

    Neither rounds of 0 times nor parts that are not called are gone into: what they hold may be past all reckoning.
    """
    if row[0] == "draw":
        return len(row[2])
    if row[0] == "if":
        return max(rows_ways(row[2], parts), rows_ways(row[3], parts))
    if row[0] == "rounds" and row[1] > 0:
        return product([rows_ways(row[2], parts)] * row[1])
    if row[0] == "call":
        return rows_ways(parts[row[2]], parts)
    return 1


def rows_ways(rows, parts):
    """The ways of rows."""
    return product([row_ways(row, parts) for row in rows])


def product(numbers):
    """The product of whole numbers, of none 1."""
    so_far = 1
    for number in numbers:
        so_far *= number
    return so_far


def ways(program):
    """The ways of a program."""
    return rows_ways(program[1], dict([(part[0], part[2]) for part in program[0]]))


def refuse_twice(some):
    """Refuses the first thing that is like one ahead of it."""
    for place, one in enumerate(some):
        if one in some[:place]:
            raise Twice(one)


def refuse_unknown(e, names):
    """Refuses the first name that an expression reads and that is not among the known ones."""
    for name in names_in(e):
        if name not in names:
            raise NoName(name)


def look_at_draw(outcomes):
    """Looks at what a draw may tell."""
    refuse_twice([outcome[0] for outcome in outcomes])
    together = total([outcome[1] for outcome in outcomes])
    if together != (1, 1):
        raise NoShares(together)


def look_at_call(row, names, lengths):
    """Looks at a call; lengths has for each part ahead how many parameters it has."""
    called = row[2]
    if called not in lengths:
        raise NoName(called)
    if len(row[3]) != lengths[called]:
        raise NoCall(called)
    for e in row[3]:
        refuse_unknown(e, names)


def look_at_row(row, names, lengths):
    """Looks at one row, ahead of which these names are known."""
    if row[0] == "draw":
        look_at_draw(row[2])
    elif row[0] == "let":
        refuse_unknown(row[2], names)
    elif row[0] == "seen":
        refuse_unknown(row[1], names)
    elif row[0] == "if":
        refuse_unknown(row[1], names)
        look_at_rows(row[2], names, lengths)
        look_at_rows(row[3], names, lengths)
    elif row[0] == "rounds":
        look_at_rows(row[2], names, lengths)
    else:
        look_at_call(row, names, lengths)


def look_at_rows(rows, before, lengths):
    """Looks at rows; tells the names known behind them, as a dict of True."""
    names = dict(before)
    for row in rows:
        look_at_row(row, names, lengths)
        for name in known([row], []):
            names[name] = True
    return names


def look_at_part(part, lengths):
    """Looks at a part, ahead of which stand those that lengths has."""
    if part[0] in lengths:
        raise Twice(part[0])
    refuse_twice(part[1])
    names = dict([(name, True) for name in part[1]])
    refuse_unknown(part[3], look_at_rows(part[2], names, lengths))


def look_at_tells(tells, names):
    """Looks at the told names, one behind the other."""
    for place, name in enumerate(tells):
        if name in tells[:place]:
            raise Twice(name)
        if name not in names:
            raise NoName(name)


def look(program):
    """Refuses a program at the first thing that is wrong with it, or lets it by."""
    lengths = {}
    for part in program[0]:
        look_at_part(part, lengths)
        lengths[part[0]] = len(part[1])
    look_at_tells(program[2], look_at_rows(program[1], {}, lengths))
    if steps(program) > MOST_STEPS:
        raise TooMany(MOST_STEPS)
    if draws(program) > MOST_DRAWS:
        raise TooMany(MOST_DRAWS)
