"""Reading the texts of expressions and programs [9] to [12]."""

from fairdraw.blocks import Layout
from fairdraw.errors import NoText
from fairdraw.fractions import fraction
from fairdraw.tokens import MOST_FIGURES, Words, is_number, take_name, take_number

MOST_IN_EXPRESSION = 40
MOST_BRACKETS = 24
MOST_ROWS = 500
MOST_ROUNDS = 400
MOST_OUTCOMES = 6
MOST_TOLD = 6
MOST_PARAMETERS = 4
SHARE_FIGURES = 9


class ExpressionReader:
    """Reads one expression from the words of a row.

    Its parts are counted as their words are met, so that none is built that is far too great.
    """

    def __init__(self, words):
        self.words = words
        self.met_parts = 0
        self.brackets = 0

    def count_part(self):
        """Counts one more part."""
        self.met_parts += 1
        if self.met_parts > MOST_IN_EXPRESSION:
            raise NoText(self.words.row)

    def meets(self, sign):
        """Whether that sign is the next one, which is then gone by and counted."""
        if not self.words.skips(sign):
            return False
        self.count_part()
        return True

    def read_or(self):
        """Any expression."""
        e = self.read_and()
        while self.meets("or"):
            e = ("or", e, self.read_and())
        return e

    def read_and(self):
        """What can stand beside an or."""
        e = self.read_not()
        while self.meets("and"):
            e = ("and", e, self.read_not())
        return e

    def read_not(self):
        """What can stand beside an and."""
        if self.meets("not"):
            return ("not", self.read_not())
        return self.read_comparison()

    def read_comparison(self):
        """A comparison, or what binds more."""
        e = self.read_sum()
        # no second comparison is looked for, as none is taken from the left
        for sign in ("<", "="):
            if self.meets(sign):
                return (sign, e, self.read_sum())
        return e

    def read_sum(self):
        """A sum, or a single thing."""
        e = self.read_single()
        while self.words.peek() in ("+", "-"):
            sign = self.words.peek()
            self.meets(sign)
            e = (sign, e, self.read_single())
        return e

    def read_single(self):
        """A number, a name, a pick or brackets."""
        word = self.words.peek()
        if word == "(":
            return self.read_brackets(1)[0]
        if self.meets("pick"):
            sides = self.read_brackets(3)
            return ("pick", sides[0], sides[1], sides[2])
        self.count_part()
        if is_number(word, MOST_FIGURES):
            return ("num", take_number(self.words, MOST_FIGURES))
        return ("name", take_name(self.words))

    def read_brackets(self, many):
        """So many expressions in one pair of brackets."""
        self.brackets += 1
        if self.brackets > MOST_BRACKETS:
            raise NoText(self.words.row)
        self.words.expect("(")
        some = [self.read_or()]
        while len(some) < many:
            self.words.expect(",")
            some.append(self.read_or())
        self.words.expect(")")
        self.brackets -= 1
        return some


def take_expression(words):
    """The expression that stands next in a row, as far as it goes."""
    return ExpressionReader(words).read_or()


def read_expression(text):
    """The expression of a text."""
    words = Words(text, 1)
    e = take_expression(words)
    words.expect_end()
    return e


def take_several(words, take_one, most):
    """One thing or more, parted by commas, each taken by the function handed in."""
    some = [take_one(words)]
    while words.skips(","):
        if len(some) == most:
            raise NoText(words.row)
        some.append(take_one(words))
    return some


def take_in_brackets(words, take_one, most):
    """The parameters of a part or the arguments of a call, perhaps none."""
    words.expect("(")
    if words.skips(")"):
        return []
    some = take_several(words, take_one, most)
    words.expect(")")
    return some


def take_share_number(words):
    """A top or a bottom of a share."""
    number = take_number(words, SHARE_FIGURES)
    if number == 0:
        raise NoText(words.row)
    return number


def take_outcome(words):
    """An outcome of a draw: its value and its share."""
    below = words.skips("-")
    number = take_number(words, MOST_FIGURES)
    words.expect("by")
    top = take_share_number(words)
    words.expect("/")
    bottom = take_share_number(words)
    return (-number if below else number, fraction(top, bottom))


def read_draw(words):
    """A draw row behind its word."""
    name = take_name(words)
    words.expect(":")
    return ("draw", name, take_several(words, take_outcome, MOST_OUTCOMES))


def read_let(words):
    """A let row behind its word."""
    name = take_name(words)
    words.expect("=")
    return ("let", name, take_expression(words))


def read_call(words):
    """A call row behind its word."""
    name = take_name(words)
    words.expect("=")
    called = take_name(words)
    return ("call", name, called, take_in_brackets(words, take_expression, MOST_PARAMETERS))


def read_rounds(words):
    """A rounds row behind its word."""
    number = take_number(words, MOST_FIGURES)
    if number > MOST_ROUNDS:
        raise NoText(words.row)
    return ("rounds", number)


def read_part(words):
    """A part row behind its word."""
    name = take_name(words)
    return ("part", name, take_in_brackets(words, take_name, MOST_PARAMETERS))


def read_form(words):
    """A row by its first word, as far as its form goes."""
    for word in ("seen", "if", "give"):
        if words.skips(word):
            return (word, take_expression(words))
    for word in ("else", "end"):
        if words.skips(word):
            return (word,)
    if words.skips("draw"):
        return read_draw(words)
    if words.skips("let"):
        return read_let(words)
    if words.skips("call"):
        return read_call(words)
    if words.skips("rounds"):
        return read_rounds(words)
    if words.skips("part"):
        return read_part(words)
    words.expect("tell")
    return ("tell", take_several(words, take_name, MOST_TOLD))


def read_row(words):
    """A row that is not of blanks alone, as a layout takes it."""
    row = read_form(words)
    words.expect_end()
    return row


def read(text):
    """The program of a text."""
    rows = text.split("\n")
    layout = Layout()
    for number, row in enumerate(rows, start=1):
        if number > MOST_ROWS:
            raise NoText(number)
        words = Words(row, number)
        if words.peek() != "":
            layout.lay(read_row(words), number)
    if layout.told is None:
        raise NoText(len(rows) + 1)
    return layout.program()
