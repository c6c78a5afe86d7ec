"""Rows of a program's text laid into blocks, parts and the program, one behind the other [11] [12].

A row that is laid is a tuple that begins with its word: a row of a program, or one of ("if", e), ("else",), ("end",),
("rounds", n), ("part", name, parameters), ("give", e), ("tell", names).
"""

from fairdraw.errors import NoText

MOST_PARTS = 6
MOST_BLOCKS = 5


class Block:
    """An `if` or `rounds` whose end has not come yet."""

    def __init__(self, word, head):
        self.word = word
        self.head = head
        self.branches = [[]]

    def takes_else(self):
        """Whether an else can stand in it."""
        return self.word == "if" and len(self.branches) == 1

    def closed(self):
        """The row of a program that it makes."""
        if self.word == "rounds":
            return ("rounds", self.head, self.branches[0])
        second = self.branches[1] if len(self.branches) == 2 else []
        return ("if", self.head, self.branches[0], second)


class Layout:
    """A program as far as its rows were laid.

    rows are those of the part that is being laid, of the program where there is no such part.
    """

    def __init__(self):
        self.parts = []
        self.part = None
        self.rows = []
        self.blocks = []
        self.told = None

    def can_stand(self, word):
        """Whether a row of that word can come next."""
        in_part = self.part is not None
        in_block = len(self.blocks) > 0
        if self.told is not None:
            return False
        if word == "part":
            begun = in_part or in_block or len(self.rows) > 0
            return not begun and len(self.parts) < MOST_PARTS
        if word == "give":
            return in_part and not in_block
        if word == "tell":
            return not in_part and not in_block
        if word == "end":
            return in_block
        if word == "else":
            return in_block and self.blocks[-1].takes_else()
        if word == "if" or word == "rounds":
            return len(self.blocks) < MOST_BLOCKS
        return True

    def lay(self, row, number):
        """Lays one more row, the text's row of that number."""
        if not self.can_stand(row[0]):
            raise NoText(number)
        if row[0] == "part":
            self.part = row
        elif row[0] == "give":
            self.end_part(row[1])
        elif row[0] == "tell":
            self.told = row[1]
        elif row[0] == "if" or row[0] == "rounds":
            self.blocks.append(Block(row[0], row[1]))
        elif row[0] == "else":
            self.blocks[-1].branches.append([])
        elif row[0] == "end":
            self.add_row(self.blocks.pop().closed())
        else:
            self.add_row(row)

    def end_part(self, result):
        """Puts the part that is being laid to the others."""
        self.parts.append((self.part[1], self.part[2], self.rows, result))
        self.part = None
        self.rows = []

    def add_row(self, row):
        """Puts a whole row where rows are being laid."""
        if len(self.blocks) == 0:
            self.rows.append(row)
        else:
            self.blocks[-1].branches[-1].append(row)

    def program(self):
        """What was laid, behind its tell row."""
        return (self.parts, self.rows, self.told)
