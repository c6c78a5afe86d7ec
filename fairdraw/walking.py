"""The walk of all ways through a program [23] [24]."""

from fairdraw.fractions import times
from fairdraw.gathering import Gathering
from fairdraw.parts import names_in, value
from fairdraw.tables import chosen, gathered, places_of, told


def replaced(some, place, one):
    """The tuple with another one at that place, or with one more where the place is its end."""
    return some[:place] + (one,) + some[place + 1:]


class StateList(Gathering):
    """States that know the same names: what these stand for, in their order, and shares.

    The names are known here also where no state is left.
    """

    def __init__(self, names, most):
        Gathering.__init__(self, most)
        self.names = names

    def place_for(self, name):
        """Where a name stands, or is to stand from now on."""
        return self.names.index(name) if name in self.names else len(self.names)

    def valued(self, es):
        """For each state what its names stand for, its share, and a tuple of what expressions stand for in it."""
        wanted = []
        for e in es:
            wanted.extend(names_in(e))
        places = places_of(self.names, wanted)
        found = []
        for numbers, share in self.shares.items():
            book = dict(zip(wanted, chosen(numbers, places)))
            found.append((numbers, share, tuple([value(e, book) for e in es])))
        return found

    def add_states(self, others):
        """The states of another list that knows these names and perhaps more."""
        places = places_of(others.names, self.names)
        for numbers, share in others.shares.items():
            self.add(chosen(numbers, places), share)


class Walk:
    """A walk through rows that may call parts, with at most so many states in each list."""

    def __init__(self, parts, most):
        self.parts = dict([(part[0], part) for part in parts])
        self.most = most
        self.results = {}

    def walk_draw(self, row, ahead):
        """Of each state one for each outcome."""
        place = ahead.place_for(row[1])
        behind = StateList(replaced(ahead.names, place, row[1]), self.most)
        for numbers, share in ahead.shares.items():
            for number, part_share in row[2]:
                behind.add(replaced(numbers, place, number), times(share, part_share))
        return behind

    def walk_let(self, row, ahead):
        """Each state with the new value."""
        place = ahead.place_for(row[1])
        behind = StateList(replaced(ahead.names, place, row[1]), self.most)
        for numbers, share, found in ahead.valued([row[2]]):
            behind.add(replaced(numbers, place, found[0]), share)
        return behind

    def walk_seen(self, row, ahead):
        """The states where it was seen."""
        behind = StateList(ahead.names, self.most)
        for numbers, share, found in ahead.valued([row[1]]):
            if found[0] != 0:
                behind.add(numbers, share)
        return behind

    def walk_if(self, row, ahead):
        """The states of both branches, without the names that one of these does not know."""
        first = StateList(ahead.names, self.most)
        second = StateList(ahead.names, self.most)
        for numbers, share, found in ahead.valued([row[1]]):
            branch = first if found[0] != 0 else second
            branch.add(numbers, share)
        first = self.walk_rows(row[2], first)
        second = self.walk_rows(row[3], second)
        behind = StateList(tuple(sorted(set(first.names) & set(second.names))), self.most)
        behind.add_states(first)
        behind.add_states(second)
        return behind

    def walk_rounds(self, row, ahead):
        """The states behind so many times of the rows."""
        behind = ahead
        for time in range(row[1]):
            behind = self.walk_rows(row[2], behind)
        return behind

    def walk_call(self, row, ahead):
        """Of each state one for each result."""
        place = ahead.place_for(row[1])
        behind = StateList(replaced(ahead.names, place, row[1]), self.most)
        for numbers, share, arguments in ahead.valued(row[3]):
            for result, part_share in self.results_of(row[2], arguments):
                behind.add(replaced(numbers, place, result[0]), times(share, part_share))
        return behind

    def results_of(self, name, arguments):
        """The results of a part, as tuples of one number, and their shares.

        What a part gives hangs on its arguments alone, so it is walked once for each.
        """
        call = (name, arguments)
        if call not in self.results:
            part = self.parts[name]
            ahead = StateList(tuple(part[1]), self.most)
            ahead.add(arguments, (1, 1))
            behind = self.walk_rows(part[2], ahead)
            rows = [(result, share) for numbers, share, result in behind.valued([part[3]])]
            self.results[call] = gathered(rows, [0])
        return self.results[call]

    def walk_row(self, row, ahead):
        """The states behind one row."""
        if row[0] == "draw":
            return self.walk_draw(row, ahead)
        if row[0] == "let":
            return self.walk_let(row, ahead)
        if row[0] == "seen":
            return self.walk_seen(row, ahead)
        if row[0] == "if":
            return self.walk_if(row, ahead)
        if row[0] == "rounds":
            return self.walk_rounds(row, ahead)
        return self.walk_call(row, ahead)

    def walk_rows(self, rows, ahead):
        """The states behind rows."""
        behind = ahead
        for row in rows:
            behind = self.walk_row(row, behind)
        return behind


def states(program, most=500):
    """The table of the states behind all rows of a program."""
    ahead = StateList((), most)
    ahead.add((), (1, 1))
    behind = Walk(program[0], most).walk_rows(program[1], ahead)
    names = tuple(sorted(behind.names))
    return (names, gathered(list(behind.shares.items()), places_of(behind.names, names)))


def walked(program, most=500):
    """The told shares of a program, by its walk."""
    return told(states(program, most), program[2])
