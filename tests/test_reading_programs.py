"""Reading the texts of programs [8] [11], and what is written read again."""

import copy
import random
import unittest

from fairdraw.reading import read
from fairdraw.writing import write

A, B, C, X = ("name", "a"), ("name", "b"), ("name", "c"), ("name", "x")
ONE = ("num", 1)
EXPRESSIONS = [
    ONE, X, ("not", X), ("-", A, ("-", B, C)), ("=", A, B), ("pick", C, ("or", A, B), ("num", 0)),
    ("not", ("and", A, ("<", B, C))), ("num", 10 ** 60 - 1),
]
NAMES = ["a", "b", "c", "x", "y1", "abcdefgh", "ends"]
OUTCOMES = [
    (0, (1, 1)), (1, (1, 2)), (-1, (2, 3)), (10 ** 60 - 1, (1, 10 ** 9 - 1)), (1 - 10 ** 60, (10 ** 9 - 1, 1)),
    (-10, (7, 2)), (12, (999, 1000)),
]


def some_of(chance, things, least, most):
    return [chance.choice(things) for time in range(chance.randrange(least, most + 1))]


def made_row(chance, deep):
    """A row with at most so many blocks within one another."""
    word = chance.choice(["draw", "let", "seen", "call"] + ["if", "rounds"] * (deep > 0))
    if word == "draw":
        return ("draw", chance.choice(NAMES), some_of(chance, OUTCOMES, 1, 6))
    if word == "let":
        return ("let", chance.choice(NAMES), chance.choice(EXPRESSIONS))
    if word == "seen":
        return ("seen", chance.choice(EXPRESSIONS))
    if word == "call":
        return ("call", chance.choice(NAMES), chance.choice(NAMES), some_of(chance, EXPRESSIONS, 0, 4))
    if word == "rounds":
        return ("rounds", chance.choice([0, 1, 7, 399, 400]), made_rows(chance, deep - 1))
    return ("if", chance.choice(EXPRESSIONS), made_rows(chance, deep - 1), made_rows(chance, deep - 1))


def made_rows(chance, deep):
    return [made_row(chance, deep) for time in range(chance.randrange(0, 4))]


def made_program(chance):
    parts = [
        (chance.choice(NAMES), some_of(chance, NAMES, 0, 4), made_rows(chance, 2), chance.choice(EXPRESSIONS))
        for time in range(chance.randrange(0, 7))
    ]
    return (parts, made_rows(chance, 4), some_of(chance, NAMES, 1, 6))


def lists_in(thing):
    """All lists in a program, however deep."""
    found = [thing] if isinstance(thing, list) else []
    if isinstance(thing, (list, tuple)):
        for part in thing:
            found.extend(lists_in(part))
    return found


class Checks(unittest.TestCase):
    def alike(self, one, other):
        """Whether both are equal, down to the kinds of their things."""
        self.assertIs(one.__class__, other.__class__)
        if isinstance(one, (list, tuple)):
            self.assertEqual(len(one), len(other))
            for left, right in zip(one, other):
                self.alike(left, right)
        else:
            self.assertEqual(one, other)

    def check(self, text, expected):
        with self.subTest(text=text):
            self.alike(read(text), expected)

    def check_row(self, text, row):
        self.check(text + "\ntell x", ([], [row], ["x"]))


class Rows(Checks):
    def test_draws(self):
        self.check_row("draw x: 1 by 1/2, -3 by 1/2", ("draw", "x", [(1, (1, 2)), (-3, (1, 2))]))
        self.check_row("draw x: 0 by 1/1", ("draw", "x", [(0, (1, 1))]))
        self.check_row("draw x: " + ", ".join(f"{k} by 1/6" for k in range(6)),
                       ("draw", "x", [(k, (1, 6)) for k in range(6)]))
        self.check_row("draw x: 1 by 1/2, 1 by 1/2", ("draw", "x", [(1, (1, 2)), (1, (1, 2))]))

    def test_values_below_nothing(self):
        for text, value in [
            ("-3", -3), ("-  3", -3), ("- 3", -3), ("-0", 0), ("-  0", 0), ("0", 0), ("3", 3),
            ("9" * 60, 10 ** 60 - 1), ("-" + "9" * 60, 1 - 10 ** 60), ("-   " + "1" + "0" * 59, -10 ** 59),
        ]:
            self.check_row(f"draw x: {text} by 1/1", ("draw", "x", [(value, (1, 1))]))

    def test_shares(self):
        for text, share in [
            ("1/2", (1, 2)), ("2/4", (1, 2)), ("6/4", (3, 2)), ("7/7", (1, 1)), ("10/5", (2, 1)), ("1 / 2", (1, 2)),
            ("999999999/999999999", (1, 1)), ("999999999/1", (999999999, 1)), ("1/999999999", (1, 999999999)),
            ("500000000/1000", (500000, 1)), ("999999998   /   999999996", (499999999, 499999998)),
        ]:
            self.check_row(f"draw x: 1 by {text}", ("draw", "x", [(1, share)]))

    def test_lets_and_seens(self):
        self.check_row("let x = a", ("let", "x", A))
        self.check_row("let x = a = b", ("let", "x", ("=", A, B)))
        self.check_row("let x = (a or b) and c", ("let", "x", ("and", ("or", A, B), C)))
        self.check_row("let x = x + 1", ("let", "x", ("+", X, ONE)))
        self.check_row("seen a", ("seen", A))
        self.check_row("seen not a < b", ("seen", ("not", ("<", A, B))))
        self.check_row("seen (a)", ("seen", A))

    def test_calls(self):
        self.check_row("call x = f()", ("call", "x", "f", []))
        self.check_row("call x = f(a)", ("call", "x", "f", [A]))
        self.check_row("call x = f(a, b)", ("call", "x", "f", [A, B]))
        self.check_row("call x = f(a, b, c)", ("call", "x", "f", [A, B, C]))
        self.check_row("call x = f(a, b, c, x)", ("call", "x", "f", [A, B, C, X]))
        self.check_row("call x = f(a = b, not a, (c), pick(a, b, c))",
                       ("call", "x", "f", [("=", A, B), ("not", A), C, ("pick", A, B, C)]))
        self.check_row("call f = f(f)", ("call", "f", "f", [("name", "f")]))

    def test_brackets_of_a_call_do_not_count(self):
        deep = "(" * 24 + "a" + ")" * 24
        self.check_row(f"call x = f({deep}, {deep})", ("call", "x", "f", [A, A]))

    def test_each_argument_may_have_forty_parts(self):
        e = A
        for time in range(39):
            e = ("not", e)
        text = "not " * 39 + "a"
        self.check_row(f"call x = f({text}, {text}, {text}, {text})", ("call", "x", "f", [e, e, e, e]))
        self.check(f"let x = {text}\nseen {text}\ntell x", ([], [("let", "x", e), ("seen", e)], ["x"]))

    def test_ifs(self):
        let, seen = ("let", "x", ONE), ("seen", X)
        self.check_row("if a\nend", ("if", A, [], []))
        self.check_row("if a\nelse\nend", ("if", A, [], []))
        self.check_row("if a\nlet x = 1\nend", ("if", A, [let], []))
        self.check_row("if a\nlet x = 1\nelse\nend", ("if", A, [let], []))
        self.check_row("if a\nelse\nlet x = 1\nend", ("if", A, [], [let]))
        self.check_row("if a\nlet x = 1\nseen x\nelse\nseen x\nlet x = 1\nend", ("if", A, [let, seen], [seen, let]))
        self.check_row("if a\nif b\nelse\nseen x\nend\nelse\nif c\nseen x\nend\nend",
                       ("if", A, [("if", B, [], [seen])], [("if", C, [seen], [])]))

    def test_rounds(self):
        let = ("let", "x", ONE)
        for n in (0, 1, 9, 10, 399, 400):
            self.check_row(f"rounds {n}\nend", ("rounds", n, []))
            self.check_row(f"rounds {n}\nlet x = 1\nlet x = 1\nend", ("rounds", n, [let, let]))
        self.check_row("rounds 2\nrounds 3\nend\nif a\nend\nend", ("rounds", 2, [("rounds", 3, []), ("if", A, [], [])]))

    def test_five_blocks_within_one_another(self):
        row, text = ("seen", X), "seen x"
        for time in range(5):
            if time % 2:
                row, text = ("rounds", time, [row]), f"rounds {time}\n{text}\nend"
            else:
                row, text = ("if", A, [], [row]), f"if a\nelse\n{text}\nend"
        self.check_row(text, row)
        # one behind the other they are not within one another
        self.check("\n".join([text] * 3) + "\ntell x", ([], [row] * 3, ["x"]))
        self.check(f"part f()\n{text}\ngive x\n{text}\ntell x", ([("f", [], [row], X)], [row], ["x"]))
        self.check_row("\n".join(["rounds 1\nend"] * 20 + ["seen x"]).join(["if a\n", "\nend"]),
                       ("if", A, [("rounds", 1, [])] * 20 + [("seen", X)], []))


class Programs(Checks):
    def test_told_names(self):
        self.check("tell x", ([], [], ["x"]))
        self.check("tell a, b, c, x, y, z", ([], [], ["a", "b", "c", "x", "y", "z"]))
        self.check("tell x, x", ([], [], ["x", "x"]))

    def test_parts(self):
        self.check("part f()\ngive 1\ntell x", ([("f", [], [], ONE)], [], ["x"]))
        self.check("part f(a)\ngive a\ntell x", ([("f", ["a"], [], A)], [], ["x"]))
        self.check("part f(a, b)\ngive a\ntell x", ([("f", ["a", "b"], [], A)], [], ["x"]))
        self.check("part f(a, b, c)\ngive a\ntell x", ([("f", ["a", "b", "c"], [], A)], [], ["x"]))
        self.check("part f(a, b, c, x)\ngive a\ntell x", ([("f", ["a", "b", "c", "x"], [], A)], [], ["x"]))
        self.check("part f(a, a)\ngive b\npart f()\ngive 1\ntell x",
                   ([("f", ["a", "a"], [], B), ("f", [], [], ONE)], [], ["x"]))

    def test_parts_with_rows(self):
        self.check("part f(a)\nlet x = a\nif a\nseen x\nend\ngive x\nlet x = 1\ntell x",
                   ([("f", ["a"], [("let", "x", A), ("if", A, [("seen", X)], [])], X)], [("let", "x", ONE)], ["x"]))

    def test_six_parts(self):
        text = "\n".join(f"part f{k}()\ngive {k}" for k in range(6))
        self.check(text + "\ntell x", ([(f"f{k}", [], [], ("num", k)) for k in range(6)], [], ["x"]))

    def test_names_need_not_be_known(self):
        self.check("call x = f(a)\ncall y = f()\nseen b\ntell c",
                   ([], [("call", "x", "f", [A]), ("call", "y", "f", []), ("seen", B)], ["c"]))

    def test_blanks_do_not_matter(self):
        self.check(
            "  part   f ( a,b )  \n give(a)\ndraw x:1 by 1/2,-  3 by 1/2\n  if(x)\n    let x=1\n  else  \nend \n"
            "rounds   3\ncall  x=f(1,a)\n end\nseen(x)\n  tell x,a ,  b  ",
            (
                [("f", ["a", "b"], [], A)],
                [
                    ("draw", "x", [(1, (1, 2)), (-3, (1, 2))]), ("if", X, [("let", "x", ONE)], []),
                    ("rounds", 3, [("call", "x", "f", [ONE, A])]), ("seen", X),
                ],
                ["x", "a", "b"],
            ),
        )

    def test_rows_of_blanks_are_passed_over(self):
        expected = ([("f", [], [("seen", X)], ONE)], [("if", A, [], [("seen", X)])], ["x"])
        rows = ["part f()", "seen x", "give 1", "if a", "else", "seen x", "end", "tell x"]
        self.check("\n".join(rows), expected)
        for between in ("\n\n", "\n   \n", "\n \n\n  \n"):
            self.check(between.join(rows), expected)
            self.check(between + between.join(rows) + between, expected)

    def test_line_feeds_behind_the_last_row(self):
        self.check("tell x\n", ([], [], ["x"]))
        self.check("tell x\n\n   \n", ([], [], ["x"]))

    def test_five_hundred_rows(self):
        seen = ("seen", X)
        self.check("seen x\n" * 499 + "tell x", ([], [seen] * 499, ["x"]))
        self.check("\n" * 499 + "tell x", ([], [], ["x"]))
        self.check("tell x" + "\n" * 499, ([], [], ["x"]))
        self.check("seen x\n" * 400 + "tell x" + "\n  " * 99, ([], [seen] * 400, ["x"]))

    def test_long_rows(self):
        self.check("tell " + " " * 9990 + "x", ([], [], ["x"]))
        self.check(" " * 10000 + "\ntell x\n" + " " * 10000, ([], [], ["x"]))


class Again(Checks):
    def test_what_is_written_is_read(self):
        chance = random.Random(8)
        for time in range(300):
            program = made_program(chance)
            kept = copy.deepcopy(program)
            text = write(program)
            self.alike(program, kept)
            if text.count("\n") < 500:
                self.alike(read(text), program)
                self.assertEqual(write(read(text)), text)

    def test_how_it_is_written(self):
        chance = random.Random(7)
        for time in range(100):
            text = write(made_program(chance))
            self.assertNotIn("\n\n", text)
            self.assertNotIn("  ", text)
            self.assertFalse(text.endswith("\n"))
            self.assertNotIn("else\nend", text)
            for row in text.split("\n"):
                self.assertEqual(row, row.strip())

    def test_in_other_form_it_is_written_as_told(self):
        self.assertEqual(write(read(" draw  x : 2 by 2/4 ,-0 by 3/6\n\nif x\nelse\nend\ntell x\n")),
                         "draw x: 2 by 1/2, 0 by 1/2\nif x\nend\ntell x")


class Own(Checks):
    TEXT = "part f()\ngive 1\npart g(a)\nif a\nend\ngive a\nif x\nelse\nend\nrounds 2\nend\ncall x = f()\ntell x"

    def test_each_reading_is_new(self):
        kept = read(self.TEXT)
        spoiled = read(self.TEXT)
        for one in lists_in(spoiled):
            one.append("more")
        self.alike(read(self.TEXT), kept)

    def test_no_list_stands_twice(self):
        chance = random.Random(6)
        for text in [self.TEXT] + [write(made_program(chance)) for time in range(30)]:
            found = lists_in(read(text))
            self.assertEqual(len({id(one) for one in found}), len(found))

    def test_a_refusal_leaves_nothing_behind(self):
        kept = read(self.TEXT)
        for text in ("if a\nseen x", "part f(a)\nseen a", self.TEXT + "\nx"):
            self.assertRaises(ValueError, read, text)
            self.alike(read(self.TEXT), kept)


if __name__ == "__main__":
    unittest.main()
