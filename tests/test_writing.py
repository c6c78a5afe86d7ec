"""Texts of fractions, expressions and programs as they are written [9] [11]."""

import copy
import unittest

from fairdraw.writing import show_expression, show_fraction, write

A, B, C = ("name", "a"), ("name", "b"), ("name", "c")
PAIRS = ("or", "and", "<", "=", "+", "-")

# which signs need brackets left and right of each sign of two
BRACKETS = {
    "or": ((), ("or",)),
    "and": (("or",), ("or", "and")),
    "<": (("or", "and", "not", "<", "="), ("or", "and", "not", "<", "=")),
    "=": (("or", "and", "not", "<", "="), ("or", "and", "not", "<", "=")),
    "+": (("or", "and", "not", "<", "="), ("or", "and", "not", "<", "=", "+", "-")),
    "-": (("or", "and", "not", "<", "="), ("or", "and", "not", "<", "=", "+", "-")),
}


class ShowFraction(unittest.TestCase):
    def test_tops_of_all_signs(self):
        for one, expected in [
            ((0, 1), "0/1"), ((1, 1), "1/1"), ((1, 2), "1/2"), ((7, 3), "7/3"), ((40, 1), "40/1"),
            ((-1, 1), "-1/1"), ((-3, 2), "-3/2"), ((-1, 1000), "-1/1000"),
        ]:
            self.assertEqual(show_fraction(one), expected)

    def test_many_figures(self):
        top, bottom = 10 ** 3999, 10 ** 3999 - 1
        self.assertEqual(show_fraction((top, bottom)), "1" + "0" * 3999 + "/" + "9" * 3999)
        self.assertEqual(show_fraction((-top, bottom)), "-1" + "0" * 3999 + "/" + "9" * 3999)


class ShowExpression(unittest.TestCase):
    def check(self, e, expected):
        with self.subTest(expected=expected):
            kept = copy.deepcopy(e)
            self.assertEqual(show_expression(e), expected)
            self.assertEqual(e, kept)

    def test_single_things(self):
        self.check(("num", 0), "0")
        self.check(("num", 1), "1")
        self.check(("num", 10 ** 59), "1" + "0" * 59)
        self.check(("num", 10 ** 60 - 1), "9" * 60)
        self.check(A, "a")
        self.check(("name", "abcdefg8"), "abcdefg8")
        self.check(("name", "num"), "num")
        self.check(("name", "name"), "name")

    def test_each_sign_of_two(self):
        for sign in PAIRS:
            self.check((sign, A, B), f"a {sign} b")
            self.check((sign, ("num", 10), ("num", 0)), f"10 {sign} 0")

    def test_told_texts(self):
        for e, expected in [
            (("-", A, ("-", B, C)), "a - (b - c)"),
            (("-", A, ("+", B, C)), "a - (b + c)"),
            (("+", ("-", A, B), C), "a - b + c"),
            (("-", ("+", A, B), C), "a + b - c"),
            (("+", A, ("+", B, C)), "a + (b + c)"),
            (("not", ("not", A)), "not not a"),
            (("not", ("and", A, B)), "not (a and b)"),
            (("not", ("or", A, B)), "not (a or b)"),
            (("not", ("<", A, B)), "not a < b"),
            (("not", ("=", A, ("+", B, C))), "not a = b + c"),
            (("not", ("+", A, B)), "not a + b"),
            (("+", ("not", A), B), "(not a) + b"),
            (("+", A, ("not", B)), "a + (not b)"),
            (("<", ("<", A, B), C), "(a < b) < c"),
            (("<", A, ("<", B, C)), "a < (b < c)"),
            (("<", ("not", A), B), "(not a) < b"),
            (("=", ("<", A, B), ("not", C)), "(a < b) = (not c)"),
            (("or", A, ("or", B, C)), "a or (b or c)"),
            (("or", ("or", A, B), C), "a or b or c"),
            (("and", A, ("and", B, C)), "a and (b and c)"),
            (("and", ("and", A, B), C), "a and b and c"),
            (("and", ("or", A, B), C), "(a or b) and c"),
            (("or", A, ("and", B, C)), "a or b and c"),
            (("and", ("not", A), ("not", B)), "not a and not b"),
            (("not", ("not", ("and", A, B))), "not not (a and b)"),
        ]:
            self.check(e, expected)

    def test_each_sign_on_each_side_of_each_other(self):
        for outer in PAIRS:
            for inner in PAIRS:
                text = f"a {inner} b"
                left = f"({text})" if inner in BRACKETS[outer][0] else text
                right = f"({text})" if inner in BRACKETS[outer][1] else text
                self.check((outer, (inner, A, B), C), f"{left} {outer} c")
                self.check((outer, C, (inner, A, B)), f"c {outer} {right}")
            left = "(not a)" if "not" in BRACKETS[outer][0] else "not a"
            right = "(not a)" if "not" in BRACKETS[outer][1] else "not a"
            self.check((outer, ("not", A), C), f"{left} {outer} c")
            self.check((outer, C, ("not", A)), f"c {outer} {right}")

    def test_not_of_each(self):
        for inner in PAIRS:
            text = f"a {inner} b"
            self.check(("not", (inner, A, B)), f"not ({text})" if inner in ("or", "and") else f"not {text}")
        self.check(("not", ("num", 0)), "not 0")
        self.check(("not", ("pick", A, B, C)), "not pick(a, b, c)")

    def test_pick_needs_no_brackets(self):
        pick = ("pick", C, A, B)
        self.check(pick, "pick(c, a, b)")
        for outer in PAIRS:
            self.check((outer, pick, A), f"pick(c, a, b) {outer} a")
            self.check((outer, A, pick), f"a {outer} pick(c, a, b)")
            self.check(("pick", (outer, A, B), (outer, B, C), (outer, C, A)),
                       f"pick(a {outer} b, b {outer} c, c {outer} a)")
        self.check(("pick", pick, ("not", A), pick), "pick(pick(c, a, b), not a, pick(c, a, b))")

    def test_forty_parts_and_somewhat_more(self):
        for many in (39, 60):
            e = A
            for time in range(many):
                e = ("not", e)
            self.check(e, "not " * many + "a")
        e, expected = A, "a"
        for time in range(30):
            e, expected = ("-", B, e), f"b - ({expected})" if time else "b - a"
        self.check(e, expected)


PROGRAM = (
    [
        ("f", ["x", "y"], [("let", "z", ("-", ("name", "x"), ("name", "y")))], ("not", ("name", "z"))),
        ("g", [], [], ("num", 3)),
        ("h", ["p", "q", "r", "s"], [("if", ("name", "p"), [], [])], ("+", ("name", "q"), ("name", "s"))),
    ],
    [
        ("draw", "x", [(1, (1, 2)), (-3, (1, 2))]),
        ("draw", "y", [(0, (1, 1))]),
        ("if", ("<", ("name", "x"), ("num", 0)), [
            ("let", "z", ("num", 1)),
            ("rounds", 400, [("if", ("name", "y"), [], [("seen", ("name", "x"))])]),
        ], [
            ("call", "z", "f", [("name", "x"), ("or", ("name", "y"), ("num", 1))]),
        ]),
        ("if", ("num", 1), [("call", "w", "g", [])], []),
        ("rounds", 0, []),
        ("seen", ("and", ("name", "x"), ("not", ("name", "y")))),
    ],
    ["x", "z"],
)
TEXT = """\
part f(x, y)
let z = x - y
give not z
part g()
give 3
part h(p, q, r, s)
if p
end
give q + s
draw x: 1 by 1/2, -3 by 1/2
draw y: 0 by 1/1
if x < 0
let z = 1
rounds 400
if y
else
seen x
end
end
else
call z = f(x, y or 1)
end
if 1
call w = g()
end
rounds 0
end
seen x and not y
tell x, z"""


class Write(unittest.TestCase):
    def test_a_whole_program(self):
        self.assertEqual(write(PROGRAM), TEXT)

    def test_what_is_handed_in_stays(self):
        kept = copy.deepcopy(PROGRAM)
        write(PROGRAM)
        self.assertEqual(PROGRAM, kept)

    def test_no_rows(self):
        self.assertEqual(write(([], [], ["x"])), "tell x")
        self.assertEqual(write(([], [], ["a", "b", "c", "d", "e", "f"])), "tell a, b, c, d, e, f")

    def check_row(self, row, expected):
        with self.subTest(expected=expected):
            self.assertEqual(write(([], [row], ["x"])), expected + "\ntell x")

    def test_draws(self):
        self.check_row(("draw", "x", [(10 ** 60 - 1, (1, 10 ** 9 - 1))]), "draw x: " + "9" * 60 + " by 1/" + "9" * 9)
        self.check_row(("draw", "x", [(1 - 10 ** 60, (10 ** 9 - 1, 1))]), "draw x: -" + "9" * 60 + " by 999999999/1")
        self.check_row(("draw", "x", [(k, (1, 6)) for k in range(-2, 4)]),
                       "draw x: -2 by 1/6, -1 by 1/6, 0 by 1/6, 1 by 1/6, 2 by 1/6, 3 by 1/6")

    def test_calls(self):
        for many in range(5):
            names = ["a", "b", "c", "d"][:many]
            self.check_row(("call", "x", "f", [("name", name) for name in names]), f"call x = f({', '.join(names)})")
        self.check_row(("call", "x", "f", [("=", A, B), ("pick", A, B, C)]), "call x = f(a = b, pick(a, b, c))")

    def test_let_of_a_comparison(self):
        self.check_row(("let", "x", ("=", A, B)), "let x = a = b")
        self.check_row(("let", "x", ("not", ("=", A, B))), "let x = not a = b")

    def test_blocks_five_deep(self):
        row = ("let", "x", ("num", 1))
        for time in range(5):
            row = ("rounds", time, [row])
        self.check_row(row, "rounds 4\nrounds 3\nrounds 2\nrounds 1\nrounds 0\nlet x = 1\nend\nend\nend\nend\nend")


if __name__ == "__main__":
    unittest.main()
