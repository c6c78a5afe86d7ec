"""The desk: programs kept by names, and rows that ask for them [40]."""

from fairdraw.asking import same
from fairdraw.errors import NoName, NoRow
from fairdraw.hanging import free
from fairdraw.looking import draws, look, steps, ways
from fairdraw.parts import is_name
from fairdraw.reading import read
from fairdraw.runners import Grapher, Tabler, Walker, show_told
from fairdraw.slicing import sliced
from fairdraw.spreading import spread
from fairdraw.writing import write

# what stands behind each first word: the name of a kept program or of one to be kept, the text of a program,
# or a name that the first program tells
FORMS = {
    "keep": ("new", "text"),
    "drop": ("kept",),
    "show": ("kept",),
    "sheet": ("new", "kept"),
    "slice": ("new", "kept"),
    "walk": ("kept",),
    "tables": ("kept",),
    "graph": ("kept",),
    "count": ("kept",),
    "free": ("kept", "told", "told"),
    "same": ("kept", "told", "told"),
    "alike": ("kept", "kept"),
}


def words_of(row):
    """The words of whatever is handed in, if it is a row of the desk."""
    if not isinstance(row, str):
        raise NoRow()
    # a program's text has blanks of its own
    words = row.split(" ", 2) if row.startswith("keep ") else row.split(" ")
    if words[0] not in FORMS or len(words) != 1 + len(FORMS[words[0]]):
        raise NoRow()
    for kind, word in zip(FORMS[words[0]], words[1:]):
        if kind != "text" and not is_name(word):
            raise NoRow()
    return words


def words_that_are(wanted, words):
    """Those words of a row that are of one kind, from the left."""
    return [word for kind, word in zip(FORMS[words[0]], words[1:]) if kind == wanted]


def made_program(words, kept):
    """The program that a row is to keep; kept has those that it names."""
    if words[0] == "keep":
        return read(words[2])
    if words[0] == "sheet":
        return spread(kept[0])
    return sliced(spread(kept[0]))


def show_count(program):
    """The steps, draws and ways of a program."""
    return " ".join([str(number) for number in (steps(program), draws(program), ways(program))])


def show_truth(truth):
    """A truth as the desk answers it."""
    return "yes" if truth else "no"


class Desk:
    """Keeps programs by names and answers rows, with a most for what it asks of them."""

    def __init__(self, most=500):
        self.most = most
        self.programs = {}

    def say(self, row):
        """The answer to a row."""
        words = words_of(row)
        kept = self.kept_by(words_that_are("kept", words))
        for name in words_that_are("told", words):
            if name not in kept[0][2]:
                raise NoName(name)
        if words[0] == "drop":
            self.programs.pop(words[1])
            return "ok"
        if "new" in FORMS[words[0]]:
            program = made_program(words, kept)
            look(program)
            self.programs[words[1]] = program
            return "ok"
        return self.answer(words, kept)

    def kept_by(self, names):
        """The programs that are kept by these names."""
        for name in names:
            if name not in self.programs:
                raise NoName(name)
        return [self.programs[name] for name in names]

    def answer(self, words, kept):
        """The answer to a row that changes nothing; kept has the programs that it names."""
        if words[0] == "show":
            return write(kept[0])
        if words[0] == "count":
            return show_count(kept[0])
        if words[0] in ("free", "same"):
            return show_truth(self.is_so(words, kept[0]))
        if words[0] == "alike":
            some = [Walker(self.most).tell(program) for program in kept]
            return show_truth(some[0] == some[1])
        return show_told(self.runner_for(words[0]).tell(kept[0]))

    def is_so(self, words, program):
        """Whether two told names of a program are free of each other, or the same."""
        sheet = spread(program)
        one = sheet[2][program[2].index(words[2])]
        other = sheet[2][program[2].index(words[3])]
        if words[0] == "free":
            return free(sheet, one, other)
        return same(sheet, one, other, self.most)

    def runner_for(self, word):
        """The runner that a row of that first word asks."""
        if word == "walk":
            return Walker(self.most)
        if word == "tables":
            return Tabler(self.most)
        return Grapher(self.most)
