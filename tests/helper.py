"""For the tests: programs strewn by a seed, and a plain reckoning of programs that keeps nothing short.

All is written by the words of the document alone; nothing here draws from the package.
"""

import itertools
import random
from fractions import Fraction

NAMES = ["a", "a1", "ab", "abc", "b", "keep", "x", "v0", "v1", "v10"]
SIGNS = ["+", "-", "<", "=", "and", "or"]


class Strewer:
    """Makes programs in which every name is known where it is read."""

    def __init__(self, seed):
        self.chance = random.Random(seed)
        self.parts = []

    def expression(self, names, depth=2):
        kind = self.chance.randrange(8) if depth else self.chance.randrange(4)
        if kind < 3 and names:
            return ("name", self.chance.choice(sorted(names)))
        if kind < 4:
            return ("num", self.chance.randrange(4))
        some = [self.expression(names, depth - 1) for time in range(3)]
        if kind == 4:
            return ("not", some[0])
        if kind == 5:
            return ("pick", *some)
        return (self.chance.choice(SIGNS), some[0], some[1])

    def outcomes(self):
        values = self.chance.sample(range(-2, 4), self.chance.randrange(1, 4))
        weights = [self.chance.randrange(1, 5) for value in values]
        shares = [Fraction(weight, sum(weights)) for weight in weights]
        return [(value, (share.numerator, share.denominator)) for value, share in zip(values, shares)]

    def row(self, names, depth):
        """A row, and the set of names known behind it."""
        kind = self.chance.randrange(12 if depth else 7)
        name = self.chance.choice(NAMES)
        if kind < 3:
            return ("draw", name, self.outcomes()), names | {name}
        if kind < 5:
            return ("let", name, self.expression(names)), names | {name}
        if kind == 5:
            return ("seen", self.expression(names)), names
        if kind == 6 and self.parts:
            part = self.chance.choice(self.parts)
            sides = [self.expression(names, 1) for parameter in part[1]]
            return ("call", name, part[0], sides), names | {name}
        if kind < 10:
            e = self.expression(names)
            first, first_names = self.rows(names, depth - 1 if depth else 0)
            second, second_names = self.rows(names, depth - 1 if depth else 0)
            return ("if", e, first, second), first_names & second_names
        times = self.chance.randrange(3)
        rows, behind = self.rows(names, depth - 1)
        return ("rounds", times, rows), behind if times else names

    def rows(self, names, depth):
        rows = []
        for time in range(self.chance.randrange(3 if depth else 2) if depth < 2 else 3):
            row, names = self.row(names, depth)
            rows.append(row)
        return rows, names

    def program(self):
        for name in ["f", "a", "g"][:self.chance.randrange(4)]:
            parameters = self.chance.sample(NAMES, self.chance.randrange(3))
            rows, names = self.rows(set(parameters), 1)
            self.parts.append((name, parameters, rows, self.expression(names)))
        rows, names = self.rows(set(), 2)
        more, names = self.rows(names, 2)
        rows = rows + more
        if not names:
            rows.append(("let", "x", ("num", 3)))
            names = {"x"}
        tells = self.chance.sample(sorted(names), self.chance.randrange(1, min(3, len(names)) + 1))
        return (list(self.parts), rows, tells)


def strewn(many, bound=400):
    """So many programs of at most so many ways to walk, and of at most 5 blocks within one another."""
    found = []
    seed = 0
    while len(found) < many:
        program = Strewer(seed).program()
        deepest = max(depth_of(rows) for rows in [program[1]] + [part[2] for part in program[0]])
        if deepest <= 5 and least_ways(program[1], program[0]) <= bound:
            found.append(program)
        seed += 1
    return found


def depth_of(rows):
    """How many blocks stand within one another at most."""
    blocks = [row for row in rows if row[0] in ("if", "rounds")]
    return max([1 + depth_of(some) for row in blocks for some in row[2:]], default=0)


def least_ways(rows, parts):
    """How many ways a walk through rows could have at most, both branches of each `if` counted."""
    many = 1
    for row in rows:
        if row[0] == "draw":
            many *= len(row[2])
        elif row[0] == "if":
            many *= least_ways(row[2], parts) + least_ways(row[3], parts)
        elif row[0] == "rounds":
            many *= least_ways(row[2], parts) ** row[1]
        elif row[0] == "call":
            many *= least_ways(part_of(parts, row[2])[2], parts)
    return many


def drawn(name, *numbers):
    """The text of a draw of these values, each as likely as the others."""
    outcomes = ", ".join(f"{number} by 1/{len(numbers)}" for number in numbers)
    return f"draw {name}: {outcomes}\n"


def even(name, many, begin=0):
    """The text of a draw of so many values, one behind the other."""
    return drawn(name, *range(begin, begin + many))


def coins(*names):
    """The text of draws of 0 and 1."""
    return "".join(even(name, 2) for name in names)


def answered(ask, *some):
    """What is told, or the name of the refusal's class and its field."""
    try:
        return ask(*some)
    except ValueError as refusal:
        return (refusal.__class__.__name__, *vars(refusal).values())


def part_of(parts, name):
    return [part for part in parts if part[0] == name][0]


def plain_value(e, book):
    if e[0] == "num":
        return e[1]
    if e[0] == "name":
        return book[e[1]]
    sides = [plain_value(side, book) for side in e[1:]]
    if e[0] == "not":
        return int(not sides[0])
    if e[0] == "pick":
        return sides[1] if sides[0] else sides[2]
    one, other = sides
    return {
        "+": one + other, "-": one - other, "<": int(one < other), "=": int(one == other),
        "and": int(bool(one and other)), "or": int(bool(one or other)),
    }[e[0]]


def plain_row(row, book, parts):
    """All ways through one row from one book, as a list of books and shares."""
    if row[0] == "draw":
        return [({**book, row[1]: value}, Fraction(*share)) for value, share in row[2]]
    if row[0] == "let":
        return [({**book, row[1]: plain_value(row[2], book)}, Fraction(1))]
    if row[0] == "seen":
        return [(book, Fraction(1))] if plain_value(row[1], book) else []
    if row[0] == "if":
        return plain_rows(row[2] if plain_value(row[1], book) else row[3], book, parts)
    if row[0] == "rounds":
        return plain_rows(row[2] * row[1], book, parts)
    part = part_of(parts, row[2])
    inner = {name: plain_value(e, book) for name, e in zip(part[1], row[3])}
    found = plain_rows(part[2], inner, parts)
    return [({**book, row[1]: plain_value(part[3], behind)}, share) for behind, share in found]


def plain_rows(rows, book, parts):
    """All ways through rows from one book."""
    ways = [(book, Fraction(1))]
    for row in rows:
        ways = [
            (behind, share * more) for ahead, share in ways for behind, more in plain_row(row, ahead, parts)
        ]
    return ways


def plain_shares(program):
    """The told shares of a program as the document tells them, or None where it cannot be."""
    shares = {}
    for book, share in plain_rows(program[1], {}, program[0]):
        values = tuple(book[name] for name in program[2])
        shares[values] = shares.get(values, 0) + share
    whole = sum(shares.values())
    if not whole:
        return None
    found = [(values, share / whole) for values, share in sorted(shares.items())]
    return [(values, (share.numerator, share.denominator)) for values, share in found]


def plain_names(e):
    """The set of names that an expression reads."""
    if e[0] in ("num", "name"):
        return {e[1]} if e[0] == "name" else set()
    return set().union(*[plain_names(side) for side in e[1:]])


def plain_choices(row, found):
    """All books of the names that a let or seen row reads, each standing for any of its kinds."""
    names = sorted(plain_names(row[-1]))
    return [dict(zip(names, numbers)) for numbers in itertools.product(*[found[name] for name in names])]


def plain_kinds(sheet):
    """The kinds of a sheet's values, and the most choices that a row has."""
    found = {}
    many = [1]
    for row in sheet[1]:
        if row[0] == "draw":
            found[row[1]] = sorted(number for number, share in row[2])
            continue
        books = plain_choices(row, found)
        many.append(len(books))
        if row[0] == "let":
            found[row[1]] = sorted({plain_value(row[2], book) for book in books})
    return found, max(many)


def plain_table(row, found):
    """The table of a row of a sheet whose values have these kinds."""
    if row[0] == "draw":
        return ((row[1],), sorted(((number,), share) for number, share in row[2]))
    books = plain_choices(row, found)
    names = plain_names(row[-1])
    if row[0] == "let":
        names.add(row[1])
        books = [{**book, row[1]: plain_value(row[2], book)} for book in books]
    else:
        books = [book for book in books if plain_value(row[1], book)]
    in_order = tuple(sorted(names))
    return (in_order, sorted((tuple(book[name] for name in in_order), (1, 1)) for book in books))


def plain_joined(one, other):
    """Two tables joined by pairs of rows: the names, and a dict of shares."""
    names = tuple(sorted(set(one[0]) | set(other[0])))
    shares = {}
    for values, share in one[1]:
        for others, more in other[1]:
            book = dict(zip(one[0], values))
            if all(book.get(name, value) == value for name, value in zip(other[0], others)):
                book.update(zip(other[0], others))
                shares[tuple(book[name] for name in names)] = Fraction(*share) * Fraction(*more)
    return names, shares


def plain_pushed(names, shares, gone):
    """The table of names and shares without those that are gone."""
    rest = [place for place, name in enumerate(names) if name not in gone]
    sums = {}
    for values, share in shares.items():
        kept = tuple(values[place] for place in rest)
        sums[kept] = sums.get(kept, 0) + share
    rows = [(values, (share.numerator, share.denominator)) for values, share in sorted(sums.items())]
    return (tuple(names[place] for place in rest), rows)


def plain_best_order(scopes, keep):
    """The best order, the scopes made one each time."""
    scopes = [set(scope) for scope in scopes]
    order = []
    while True:
        left = {name for scope in scopes for name in scope if name not in keep and name not in order}
        if not left:
            return order
        name = min(sorted(left), key=lambda one: len(set().union(*[scope for scope in scopes if one in scope])))
        together = set().union(*[scope for scope in scopes if name in scope])
        scopes = [scope for scope in scopes if name not in scope] + [together - {name}]
        order.append(name)


def plain_node(tell, counts, answers=()):
    """The node of a function of lists of answers: ("leaf", value), or a question and a tuple of nodes."""
    question = len(answers)
    if question == len(counts):
        return ("leaf", tell(list(answers)))
    below = tuple(plain_node(tell, counts, answers + (answer,)) for answer in range(counts[question]))
    return below[0] if len(set(below)) == 1 else (question, below)


def plain_nodes(node):
    """The set of all nodes to which one comes from a node, itself too."""
    if node[0] == "leaf":
        return {node}
    return {node}.union(*[plain_nodes(other) for other in node[1]])


def strewn_sheets(many, bound=200):
    """So many sheets of at most so many ways, of several draws, lets of few names, and seen rows of few names."""
    found = []
    seed = 0
    while len(found) < many:
        sheet = strewn_sheet(random.Random(seed))
        if least_ways(sheet[1], []) <= bound:
            found.append(sheet)
        seed += 1
    return found


def strewn_sheet(chance):
    """One sheet by a source of chance."""
    strewer = Strewer(0)
    strewer.chance = chance
    left = [f"v{number}" for number in range(12)]
    chance.shuffle(left)
    rows = []
    given = []
    for kind in ["draw"] + chance.choices(["draw", "let", "seen"], [4, 2, 3], k=chance.randrange(11)):
        some = chance.sample(given, min(len(given), chance.choice([0, 1, 1, 2, 3])))
        e = strewer.expression(set(some))
        if kind == "seen":
            # most read all of the names, so that several draws are tied
            for name in some[:chance.randrange(1, 4)]:
                e = (chance.choice(SIGNS), ("name", name), e)
            rows.append(("seen", e))
            continue
        given.append(left.pop())
        rows.append((kind, given[-1], strewer.outcomes() if kind == "draw" else e))
    return ([], rows, chance.sample(given, chance.randrange(1, min(3, len(given)) + 1)))


def plain_behind(sheet, names):
    """The set of draws behind some names of a sheet."""
    rows = {row[1]: row for row in sheet[1] if row[0] != "seen"}
    found = set()
    for name in names:
        row = rows[name]
        found |= {name} if row[0] == "draw" else plain_behind(sheet, plain_names(row[2]))
    return found


def plain_ties(sheet):
    """For each seen row of a sheet the set of draws behind it."""
    return [plain_behind(sheet, plain_names(row[1])) for row in sheet[1] if row[0] == "seen"]


def plain_groups(sheet):
    """The groups of a sheet, two made one as long as a seen row ties them."""
    groups = [{row[1]} for row in sheet[1] if row[0] == "draw"]
    for tie in plain_ties(sheet):
        touched = [group for group in groups if group & tie]
        groups = [group for group in groups if not group & tie]
        if touched:
            groups.append(set().union(*touched))
    return sorted(sorted(group) for group in groups)


def plain_slice(sheet):
    """The slice of a sheet, rows taken as long as one is asked for."""
    told = plain_behind(sheet, sheet[2])
    near = {draw for group in plain_groups(sheet) if told & set(group) for draw in group}
    names = set(sheet[2])
    taken = set()
    while True:
        wanted = {
            place for place, row in enumerate(sheet[1])
            if (near & plain_behind(sheet, plain_names(row[1])) if row[0] == "seen" else row[1] in names)
        }
        if wanted == taken:
            return ([], [row for place, row in enumerate(sheet[1]) if place in taken], sheet[2])
        taken = wanted
        for place in taken:
            row = sheet[1][place]
            names |= plain_names(row[-1]) if row[0] != "draw" else set()


def plain_walk(rows, names, crowd, parts, counts):
    """The walk by the document's words: names known and a dict of states behind rows; counts has all lists' lengths."""
    for row in rows:
        found = []
        behind = names | {row[1]} if row[0] in ("draw", "let", "call") else names
        if row[0] == "rounds":
            for time in range(row[1]):
                behind, crowd = plain_walk(row[2], behind, crowd, parts, counts)
            found = list(crowd.items())
        elif row[0] == "if":
            sides = [{}, {}]
            for state, share in crowd.items():
                sides[plain_value(row[1], dict(state)) == 0][state] = share
            first_names, first = plain_walk(row[2], names, sides[0], parts, counts)
            second_names, second = plain_walk(row[3], names, sides[1], parts, counts)
            behind = first_names & second_names
            found = list(first.items()) + list(second.items())
        else:
            for state, share in crowd.items():
                book = dict(state)
                for more, part_share in plain_states(row, book, parts, counts):
                    found.append((frozenset({**book, **more}.items()), share * part_share))
        names = behind
        crowd = {}
        for state, share in found:
            kept = frozenset((name, number) for name, number in state if name in names)
            crowd[kept] = crowd.get(kept, 0) + share
        counts.append(len(crowd))
    return names, crowd


def plain_states(row, book, parts, counts):
    """What a draw, let, seen or call gives to one state: a list of books and shares."""
    if row[0] == "draw":
        return [({row[1]: number}, Fraction(*share)) for number, share in row[2]]
    if row[0] == "let":
        return [({row[1]: plain_value(row[2], book)}, Fraction(1))]
    if row[0] == "seen":
        return [({}, Fraction(1))] if plain_value(row[1], book) else []
    part = part_of(parts, row[2])
    inner = frozenset((name, plain_value(e, book)) for name, e in zip(part[1], row[3]))
    crowd = plain_walk(part[2], set(part[1]), {inner: Fraction(1)}, parts, counts)[1]
    return [({row[1]: plain_value(part[3], dict(state))}, share) for state, share in crowd.items()]


def plain_walked(program):
    """The table of states, and how many states the longest list has."""
    counts = [1]
    names, crowd = plain_walk(program[1], set(), {frozenset(): Fraction(1)}, program[0], counts)
    in_order = tuple(sorted(names))
    rows = []
    for state, share in crowd.items():
        book = dict(state)
        rows.append((tuple(book[name] for name in in_order), (share.numerator, share.denominator)))
    return (in_order, sorted(rows)), max(counts)


def plain_tables_most(sheet, order=None):
    """The least `most` that is not passed by tables: the most choices of a row, or rows of a join."""
    found, many = plain_kinds(sheet)
    left = [plain_table(row, found) for row in sheet[1]]
    if order is None:
        order = plain_best_order([table[0] for table in left], sheet[2])
    counts = [many]

    def all_joined(tables):
        whole = tables[0]
        for table in tables[1:]:
            names, shares = plain_joined(whole, table)
            counts.append(len(shares))
            whole = plain_pushed(names, shares, [])
        return whole

    for name in order:
        having = [table for table in left if name in table[0]]
        left = [table for table in left if name not in table[0]]
        names, rows = all_joined(having)
        shares = dict(plain_joined((names, rows), ((), [((), (1, 1))]))[1])
        left.append(plain_pushed(names, shares, [name]))
    all_joined(left)
    return max(counts)


class PlainGraph:
    """The nodes of a sheet as nested tuples, made of all lists of answers; sizes has those of all nodes made."""

    def __init__(self, sheet):
        self.draws = [row for row in sheet[1] if row[0] == "draw"]
        self.counts = [len(row[2]) for row in self.draws]
        self.books = {}
        for answers in itertools.product(*[range(count) for count in self.counts]):
            book = {row[1]: row[2][answer][0] for row, answer in zip(self.draws, answers)}
            for row in sheet[1]:
                if row[0] == "let":
                    book[row[1]] = plain_value(row[2], book)
            self.books[answers] = book
        self.sizes = [1]
        self.seen = ("num", 1)
        for row in sheet[1]:
            if row[0] == "draw":
                self.sizes.append(len(plain_nodes(self.node(("name", row[1])))))
            else:
                self.made(row[-1])
            if row[0] == "seen":
                self.seen = ("and", self.seen, row[1])
                self.sizes.append(len(plain_nodes(self.node(self.seen))))

    def node(self, e):
        return plain_node(lambda answers: plain_value(e, self.books[tuple(answers)]), self.counts)

    def made(self, e):
        """Measures the nodes of an expression and of its parts."""
        if e[0] not in ("num", "name"):
            self.sizes.append(len(plain_nodes(self.node(e))))
            for side in e[1:]:
                self.made(side)

    def row_counts(self, tells):
        """How many rows are left at the begin and behind each question."""
        rows = {(self.node(self.seen), *[self.node(("name", name)) for name in tells])}
        counts = []
        for question in range(-1, len(self.counts)):
            behind = set()
            for row in rows:
                for answer in range(self.counts[question] if question >= 0 else 1):
                    behind.add(tuple(node[1][answer] if node[0] == question else node for node in row))
            rows = {row for row in behind if row[0] != ("leaf", 0)}
            counts.append(len(rows))
        return counts


def plain_graph_most(sheet):
    """The least `most` that is not passed by the graph."""
    graph = PlainGraph(sheet)
    return max(graph.sizes + graph.row_counts(sheet[2]))
