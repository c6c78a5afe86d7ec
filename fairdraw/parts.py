"""Names and expressions [6] [7]."""

LETTERS = "abcdefghijklmnopqrstuvwxyz"
FIGURES = "0123456789"
MOST_SIGNS = 8
KEY_WORDS = (
    "draw", "let", "seen", "if", "else", "end", "rounds", "part",
    "give", "call", "tell", "by", "pick", "and", "or", "not",
)


def is_name(thing):
    """Whether whatever is handed in is a name."""
    if not isinstance(thing, str):
        return False
    if len(thing) == 0 or len(thing) > MOST_SIGNS:
        return False
    if thing[0] not in LETTERS or thing in KEY_WORDS:
        return False
    return all([sign in LETTERS or sign in FIGURES for sign in thing])


def holds(sign, numbers):
    """Whether what a sign says of numbers is so, for the signs whose value is 1 or 0."""
    if sign == "not":
        return numbers[0] == 0
    if sign == "<":
        return numbers[0] < numbers[1]
    if sign == "=":
        return numbers[0] == numbers[1]
    if sign == "and":
        return numbers[0] != 0 and numbers[1] != 0
    return numbers[0] != 0 or numbers[1] != 0


def reckoned(sign, numbers):
    """The value of an expression of that sign whose own parts have these values."""
    if sign == "+":
        return numbers[0] + numbers[1]
    if sign == "-":
        return numbers[0] - numbers[1]
    if sign == "pick":
        return numbers[1] if numbers[0] != 0 else numbers[2]
    return 1 if holds(sign, numbers) else 0


def value(e, book):
    """The value of an expression, names standing for what the book has for them."""
    if e[0] == "num":
        return e[1]
    if e[0] == "name":
        return book[e[1]]
    return reckoned(e[0], [value(part, book) for part in e[1:]])


def names_in(e):
    """The names that an expression reads, each once, in the order in which they first stand."""
    if e[0] == "num":
        return []
    if e[0] == "name":
        return [e[1]]
    found = []
    for part in e[1:]:
        for name in names_in(part):
            if name not in found:
                found.append(name)
    return found


def renamed(e, book):
    """The expression with each name as the book tells, all names at once."""
    if e[0] == "num":
        return ("num", e[1])
    if e[0] == "name":
        return ("name", book[e[1]])
    return tuple([e[0]] + [renamed(part, book) for part in e[1:]])
