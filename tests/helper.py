"""For the tests: programs strewn by a seed, and a plain reckoning of programs that keeps nothing short.

All is written by the words of the document alone; nothing here draws from the package.
"""

import itertools
import random
from fractions import Fraction

NAMES = ["a", "a1", "ab", "abc", "b", "keep", "x", "v0", "v1", "v10"]
SIGNS = ["+", "-", "<", "=", "and", "or"]


class Strewer:
    """Makes programs in which every name is known where it is read."""

    def __init__(self, seed):
        self.chance = random.Random(seed)
        self.parts = []

    def expression(self, names, depth=2):
        kind = self.chance.randrange(8) if depth else self.chance.randrange(4)
        if kind < 3 and names:
            return ("name", self.chance.choice(sorted(names)))
        if kind < 4:
            return ("num", self.chance.randrange(4))
        some = [self.expression(names, depth - 1) for time in range(3)]
        if kind == 4:
            return ("not", some[0])
        if kind == 5:
            return ("pick", *some)
        return (self.chance.choice(SIGNS), some[0], some[1])

    def outcomes(self):
        values = self.chance.sample(range(-2, 4), self.chance.randrange(1, 4))
        weights = [self.chance.randrange(1, 5) for value in values]
        shares = [Fraction(weight, sum(weights)) for weight in weights]
        return [(value, (share.numerator, share.denominator)) for value, share in zip(values, shares)]

    def row(self, names, depth):
        """A row, and the set of names known behind it."""
        kind = self.chance.randrange(12 if depth else 7)
        name = self.chance.choice(NAMES)
        if kind < 3:
            return ("draw", name, self.outcomes()), names | {name}
        if kind < 5:
            return ("let", name, self.expression(names)), names | {name}
        if kind == 5:
            return ("seen", self.expression(names)), names
        if kind == 6 and self.parts:
            part = self.chance.choice(self.parts)
            sides = [self.expression(names, 1) for parameter in part[1]]
            return ("call", name, part[0], sides), names | {name}
        if kind < 10:
            e = self.expression(names)
            first, first_names = self.rows(names, depth - 1 if depth else 0)
            second, second_names = self.rows(names, depth - 1 if depth else 0)
            return ("if", e, first, second), first_names & second_names
        times = self.chance.randrange(3)
        rows, behind = self.rows(names, depth - 1)
        return ("rounds", times, rows), behind if times else names

    def rows(self, names, depth):
        rows = []
        for time in range(self.chance.randrange(3 if depth else 2) if depth < 2 else 3):
            row, names = self.row(names, depth)
            rows.append(row)
        return rows, names

    def program(self):
        for name in ["f", "a", "g"][:self.chance.randrange(4)]:
            parameters = self.chance.sample(NAMES, self.chance.randrange(3))
            rows, names = self.rows(set(parameters), 1)
            self.parts.append((name, parameters, rows, self.expression(names)))
        rows, names = self.rows(set(), 2)
        more, names = self.rows(names, 2)
        rows = rows + more
        if not names:
            rows.append(("let", "x", ("num", 3)))
            names = {"x"}
        tells = self.chance.sample(sorted(names), self.chance.randrange(1, min(3, len(names)) + 1))
        return (list(self.parts), rows, tells)


def strewn(many, bound=400):
    """So many programs of at most so many ways to walk."""
    found = []
    seed = 0
    while len(found) < many:
        program = Strewer(seed).program()
        if least_ways(program[1], program[0]) <= bound:
            found.append(program)
        seed += 1
    return found


def least_ways(rows, parts):
    """How many ways a walk through rows could have at most, both branches of each `if` counted."""
    many = 1
    for row in rows:
        if row[0] == "draw":
            many *= len(row[2])
        elif row[0] == "if":
            many *= least_ways(row[2], parts) + least_ways(row[3], parts)
        elif row[0] == "rounds":
            many *= least_ways(row[2], parts) ** row[1]
        elif row[0] == "call":
            many *= least_ways(part_of(parts, row[2])[2], parts)
    return many


def drawn(name, *numbers):
    """The text of a draw of these values, each as likely as the others."""
    outcomes = ", ".join(f"{number} by 1/{len(numbers)}" for number in numbers)
    return f"draw {name}: {outcomes}\n"


def even(name, many, begin=0):
    """The text of a draw of so many values, one behind the other."""
    return drawn(name, *range(begin, begin + many))


def part_of(parts, name):
    return [part for part in parts if part[0] == name][0]


def plain_value(e, book):
    if e[0] == "num":
        return e[1]
    if e[0] == "name":
        return book[e[1]]
    sides = [plain_value(side, book) for side in e[1:]]
    if e[0] == "not":
        return int(not sides[0])
    if e[0] == "pick":
        return sides[1] if sides[0] else sides[2]
    one, other = sides
    return {
        "+": one + other, "-": one - other, "<": int(one < other), "=": int(one == other),
        "and": int(bool(one and other)), "or": int(bool(one or other)),
    }[e[0]]


def plain_row(row, book, parts):
    """All ways through one row from one book, as a list of books and shares."""
    if row[0] == "draw":
        return [({**book, row[1]: value}, Fraction(*share)) for value, share in row[2]]
    if row[0] == "let":
        return [({**book, row[1]: plain_value(row[2], book)}, Fraction(1))]
    if row[0] == "seen":
        return [(book, Fraction(1))] if plain_value(row[1], book) else []
    if row[0] == "if":
        return plain_rows(row[2] if plain_value(row[1], book) else row[3], book, parts)
    if row[0] == "rounds":
        return plain_rows(row[2] * row[1], book, parts)
    part = part_of(parts, row[2])
    inner = {name: plain_value(e, book) for name, e in zip(part[1], row[3])}
    found = plain_rows(part[2], inner, parts)
    return [({**book, row[1]: plain_value(part[3], behind)}, share) for behind, share in found]


def plain_rows(rows, book, parts):
    """All ways through rows from one book."""
    ways = [(book, Fraction(1))]
    for row in rows:
        ways = [
            (behind, share * more) for ahead, share in ways for behind, more in plain_row(row, ahead, parts)
        ]
    return ways


def plain_shares(program):
    """The told shares of a program as the document tells them, or None where it cannot be."""
    shares = {}
    for book, share in plain_rows(program[1], {}, program[0]):
        values = tuple(book[name] for name in program[2])
        shares[values] = shares.get(values, 0) + share
    whole = sum(shares.values())
    if not whole:
        return None
    found = [(values, share / whole) for values, share in sorted(shares.items())]
    return [(values, (share.numerator, share.denominator)) for values, share in found]


def plain_names(e):
    """The set of names that an expression reads."""
    if e[0] in ("num", "name"):
        return {e[1]} if e[0] == "name" else set()
    return set().union(*[plain_names(side) for side in e[1:]])


def plain_choices(row, found):
    """All books of the names that a let or seen row reads, each standing for any of its kinds."""
    names = sorted(plain_names(row[-1]))
    return [dict(zip(names, numbers)) for numbers in itertools.product(*[found[name] for name in names])]


def plain_kinds(sheet):
    """The kinds of a sheet's values, and the most choices that a row has."""
    found = {}
    many = [1]
    for row in sheet[1]:
        if row[0] == "draw":
            found[row[1]] = sorted(number for number, share in row[2])
            continue
        books = plain_choices(row, found)
        many.append(len(books))
        if row[0] == "let":
            found[row[1]] = sorted({plain_value(row[2], book) for book in books})
    return found, max(many)


def plain_table(row, found):
    """The table of a row of a sheet whose values have these kinds."""
    if row[0] == "draw":
        return ((row[1],), sorted(((number,), share) for number, share in row[2]))
    books = plain_choices(row, found)
    names = plain_names(row[-1])
    if row[0] == "let":
        names.add(row[1])
        books = [{**book, row[1]: plain_value(row[2], book)} for book in books]
    else:
        books = [book for book in books if plain_value(row[1], book)]
    in_order = tuple(sorted(names))
    return (in_order, sorted((tuple(book[name] for name in in_order), (1, 1)) for book in books))


def plain_joined(one, other):
    """Two tables joined by pairs of rows: the names, and a dict of shares."""
    names = tuple(sorted(set(one[0]) | set(other[0])))
    shares = {}
    for values, share in one[1]:
        for others, more in other[1]:
            book = dict(zip(one[0], values))
            if all(book.get(name, value) == value for name, value in zip(other[0], others)):
                book.update(zip(other[0], others))
                shares[tuple(book[name] for name in names)] = Fraction(*share) * Fraction(*more)
    return names, shares


def plain_pushed(names, shares, gone):
    """The table of names and shares without those that are gone."""
    rest = [place for place, name in enumerate(names) if name not in gone]
    sums = {}
    for values, share in shares.items():
        kept = tuple(values[place] for place in rest)
        sums[kept] = sums.get(kept, 0) + share
    rows = [(values, (share.numerator, share.denominator)) for values, share in sorted(sums.items())]
    return (tuple(names[place] for place in rest), rows)


def plain_best_order(scopes, keep):
    """The best order, the scopes made one each time."""
    scopes = [set(scope) for scope in scopes]
    order = []
    while True:
        left = {name for scope in scopes for name in scope if name not in keep and name not in order}
        if not left:
            return order
        name = min(sorted(left), key=lambda one: len(set().union(*[scope for scope in scopes if one in scope])))
        together = set().union(*[scope for scope in scopes if name in scope])
        scopes = [scope for scope in scopes if name not in scope] + [together - {name}]
        order.append(name)


def plain_node(tell, counts, answers=()):
    """The node of a function of lists of answers: ("leaf", value), or a question and a tuple of nodes."""
    question = len(answers)
    if question == len(counts):
        return ("leaf", tell(list(answers)))
    below = tuple(plain_node(tell, counts, answers + (answer,)) for answer in range(counts[question]))
    return below[0] if len(set(below)) == 1 else (question, below)


def plain_nodes(node):
    """The set of all nodes to which one comes from a node, itself too."""
    if node[0] == "leaf":
        return {node}
    return {node}.union(*[plain_nodes(other) for other in node[1]])
