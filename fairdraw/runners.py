"""Three runners that tell the shares of programs, and told shares as a text [38] [39]."""

from fairdraw.asking import by_graph
from fairdraw.kinds import by_tables
from fairdraw.looking import look
from fairdraw.spreading import spread
from fairdraw.walking import walked
from fairdraw.writing import show_fraction


class Runner:
    """What all runners have: a most, and a look at each program ahead of all."""

    def __init__(self, most=500):
        self.most = most

    def tell(self, program):
        """The told shares of a program."""
        look(program)
        return self.shares_of(program)

    def shares_of(self, program):
        """The told shares of a program that was looked at; each runner has its own way."""
        raise NotImplementedError()


class Walker(Runner):
    """Walks all ways."""

    def shares_of(self, program):
        """By the walk of the program itself."""
        return walked(program, self.most)


class Tabler(Runner):
    """Pushes names out of tables."""

    def shares_of(self, program):
        """By the tables of the program's sheet."""
        return by_tables(spread(program), None, self.most)


class Grapher(Runner):
    """Asks questions in a shared graph."""

    def shares_of(self, program):
        """By the graph of the program's sheet."""
        return by_graph(spread(program), self.most)


def show_row(numbers, share):
    """The values and the share of one row of told shares."""
    values = " ".join([str(number) for number in numbers])
    part = show_fraction(share)
    return f"{values} by {part}"


def show_told(some):
    """Told shares as a text."""
    return "; ".join([show_row(numbers, share) for numbers, share in some])
