"""What is no text of a program, and the number of the row that is told [12]."""

import itertools
import unittest

from fairdraw.errors import DrawError, NoText
from fairdraw.reading import read

KEY_WORDS = "draw let seen if else end rounds part give call tell by pick and or not".split()


class Checks(unittest.TestCase):
    def refused(self, text, row):
        with self.subTest(text=text[:300]):
            with self.assertRaises(NoText) as caught:
                read(text)
            self.assertEqual(caught.exception.row, row)
            self.assertIs(caught.exception.row.__class__, int)
            self.assertIsInstance(caught.exception, DrawError)

    def bad_row(self, row):
        """A row that can't stand anywhere, whatever is around it."""
        self.refused(row, 1)
        self.refused(row + "\ntell x", 1)
        self.refused(f"let x = 1\n\n   \n{row}\ntell x", 4)
        self.refused(f"part f()\n{row}\ngive 1\ntell x", 2)
        self.refused(f"if x\n{row}\nend\ntell x", 2)
        self.refused(f"rounds 3\nif x\nelse\n{row}\nend\nend\ntell x", 4)
        self.refused(f"tell x\n{row}", 2)


class Forms(Checks):
    def test_no_form(self):
        for row in (
            "x", "1", "x = 1", "let", "seen", "draw", "call", "rounds", "part", "if", "give", "tell", "by", "pick",
            "and", "or", "not", "not x", "lets x = 1", "letx = 1", "LET x = 1", "let x = 1;", "# remark", "()", ",",
            "(let x = 1)", "elseif x", "else if x", "else x", "end x", "end end", "end if", "else else", "while x",
            "drawx: 1 by 1/1", "rounds3", "tellx", "1 let x = 1", "- let x = 1", "pick(a, b, c)", "x: 1 by 1/1",
        ):
            self.bad_row(row)

    def test_other_signs(self):
        for sign in "\t!\"#$%&'*.;>?@[\\]^_`{|}~AZ\r\x0b\x0c\u00a0\u00e9\u2028":
            self.bad_row(sign)
            self.bad_row(f"let x = 1 {sign}")
            self.bad_row(f"{sign} let x = 1")
            self.bad_row(f"let x{sign}= 1")
        self.bad_row("   \t   ")

    def test_lets(self):
        for row in (
            "let x", "let x =", "let = 1", "let 1 = x", "let x == 1", "let x: 1", "let x 1", "let x = 1 2", "let x, y = 1",
            "let x = 1, 2", "let (x) = 1", "let x = (1", "let x = 1)", "let abcdefghi = 1", "let x = abcdefghi",
            "let x = a < b < c", "let x = a + not b", "let x = 01", "let x = -1", "let x = " + "1" * 61, "let x = f(1)",
            "let x = " + "not " * 40 + "a", "let x = " + "(" * 25 + "a" + ")" * 25, "let 1x = 1", "let x = 1x",
            "let x = pick(a, b)", "let x = 1/2", "let x = a: b",
        ):
            self.bad_row(row)

    def test_seens_and_ifs(self):
        for word in ("seen", "if", "give"):
            for rest in ("", " ()", " x y", " x,", " x:", " = 1", " x =", " not", " (x", " x)", " 00", " if", "x"):
                self.bad_row(word + rest)

    def test_key_words_as_names(self):
        for word in KEY_WORDS:
            for row in (f"let {word} = 1", f"draw {word}: 1 by 1/1", f"call {word} = f()", f"call x = {word}()",
                        f"call x = {word}(a, b, c)", f"part {word}()", f"part f({word})", f"part f(x, {word})",
                        f"tell {word}", f"tell x, {word}", f"seen {word}", f"let x = {word}"):
                self.bad_row(row)

    def test_draws(self):
        for row in (
            "draw x", "draw x:", "draw x 1 by 1/1", "draw x = 1 by 1/1", "draw: 1 by 1/1", "draw 1: 1 by 1/1",
            "draw x: 1", "draw x: 1 by", "draw x: 1 by 1", "draw x: 1 by 1/", "draw x: by 1/1", "draw x: 1 1/1",
            "draw x: 1 by 1/1,", "draw x: , 1 by 1/1", "draw x: 1 by 1/2 1 by 1/2", "draw x: 1 by 1/2,, 2 by 1/2",
            "draw x: a by 1/1", "draw x: 1 + 1 by 1/1", "draw x: (1) by 1/1", "draw x: 1 by (1/1)", "draw x: 1 by a/1",
            "draw x: --1 by 1/1", "draw x: +1 by 1/1", "draw x: - by 1/1", "draw x: 1- by 1/1", "draw x: 01 by 1/1",
            "draw x: -01 by 1/1", "draw x: 00 by 1/1", "draw x: -00 by 1/1", "draw x: 1by 1/1", "draw x: 1 by1/1",
            "draw x: 1x by 1/1", "draw x:: 1 by 1/1", "draw x, y: 1 by 1/1", "draw x: 1 by 1/1/1", "draw x: 1 by 1//1",
            "draw x: " + "1" * 61 + " by 1/1", "draw x: -" + "1" * 61 + " by 1/1",
        ):
            self.bad_row(row)

    def test_shares(self):
        for share in (
            "0/1", "1/0", "0/0", "-1/2", "1/-2", "-1/-2", "01/2", "1/02", "1000000000/1", "1/1000000000",
            "1234567890/1234567890", "0000000001/2", "00/1", "1/00", "1/2x", "1 2", "1.5", "1:2", "1,2", "0", "1/2 3",
        ):
            self.bad_row(f"draw x: 1 by {share}")
            self.bad_row(f"draw x: 0 by 1/2, 1 by {share}")

    def test_numbers_of_outcomes(self):
        self.bad_row("draw x: " + ", ".join(f"{k} by 1/7" for k in range(7)))
        self.bad_row("draw x: " + ", ".join(f"{k} by 1/9" for k in range(9)))
        self.bad_row("draw x:")

    def test_rounds(self):
        for rest in ("", "401", "1000", "4000", "00", "01", "0400", "-1", "- 0", "x", "(3)", "1 + 1", "3 3", "3,", "3x",
                     "1" * 60, "1" * 61, "1" * 5000, "3 let x = 1", ": 3", "= 3"):
            self.bad_row(f"rounds {rest}")

    def test_calls(self):
        for row in (
            "call x", "call x =", "call x = f", "call f()", "call x f()", "call x = f(", "call x = f)", "call x = f(a",
            "call x = f(a,)", "call x = f(,a)", "call x = f(a,, b)", "call x = f(,)", "call x = f(a b)", "call x = (a)",
            "call x = 1()", "call x = f(a) + 1", "call x = f(a))", "call x = f((a)", "call x = f()()", "call x, y = f()",
            "call x = f(a) b", "call 1 = f()", "call x: f()", "call x = f[a]", "call x = f((a, b))", "call x = f a",
            "call x = f(g(a))", "call x = f(-1)", "call x = f(1/2)", "call x = f(())", "call abcdefghi = f()",
            "call x = abcdefghi()",
        ):
            self.bad_row(row)

    def test_numbers_of_arguments(self):
        self.bad_row("call x = f(a, b, c, d, e)")
        self.bad_row("call x = f(1, 2, 3, 4, 5, 6)")

    def test_bounds_of_each_argument(self):
        deep = "(" * 25 + "a" + ")" * 25
        many = "not " * 40 + "a"
        for argument in (deep, many, "1" * 61):
            self.bad_row(f"call x = f({argument})")
            self.bad_row(f"call x = f(a, {argument})")

    def test_parts(self):
        for row in (
            "part", "part f", "part ()", "part f(", "part f)", "part f(x", "part f x", "part f(x,)", "part f(,x)",
            "part f(,)", "part f(x y)", "part f(1)", "part f((x))", "part f(x) x", "part f() give 1", "part 1()",
            "part f(x + y)", "part f = (x)", "part f():", "part abcdefghi()", "part f(abcdefghi)", "part f(-x)",
            "part f(a, b, c, d, e)", "part f(a, b, c, d, e, f)",
        ):
            self.bad_row(row)

    def test_tells(self):
        for row in (
            "tell", "tell ,", "tell x,", "tell , x", "tell x y", "tell x,, y", "tell 1", "tell (x)", "tell x + y",
            "tell abcdefghi", "tell x;", "tell x: y", "tell a, b, c, d, e, f, g", "tell a, a, a, a, a, a, a",
        ):
            self.bad_row(row)


class Places(Checks):
    def test_behind_the_tell_row(self):
        for row in ("let x = 1", "tell x", "part f()", "give 1", "if x", "else", "end", "x", "draw x: 1 by 1/1", ".",
                    "\t", "   \t", "seen x", "rounds 1", "call x = f()"):
            self.refused(f"tell x\n{row}", 2)
            self.refused(f"tell x\n\n   \n{row}\n{row}", 4)
            self.refused(f"let x = 1\ntell x\n{row}\ntell x", 3)

    def test_part_within_a_part(self):
        self.refused("part f()\npart g()\ngive 1\ngive 1\ntell x", 2)
        self.refused("part f()\nlet x = 1\n\npart g()\ngive 1\ngive 1\ntell x", 4)
        self.refused("part f()\nif 1\npart g()\ngive 1\nend\ngive 1\ntell x", 3)
        self.refused("part f()\ngive 1\npart g()\npart h()\ngive 1\ntell x", 4)

    def test_part_behind_a_row_of_the_program(self):
        for row in ("let x = 1", "draw x: 1 by 1/1", "seen 1", "call x = f()", "if 1\nend", "rounds 0\nend"):
            rows = row.count("\n") + 1
            self.refused(f"{row}\npart f()\ngive 1\ntell x", rows + 1)
            self.refused(f"part g()\ngive 1\n{row}\n\npart f()\ngive 1\ntell x", rows + 4)
        self.refused("if 1\npart f()\ngive 1\nend\ntell x", 2)
        self.refused("rounds 1\n  \npart f()\ngive 1\nend\ntell x", 3)

    def test_a_seventh_part(self):
        six = "\n".join(f"part f{k}(a)\ngive a" for k in range(6))
        self.refused(f"{six}\npart g()\ngive 1\ntell x", 13)
        self.refused(f"\n{six}\n\n\npart g()\ngive 1\ntell x", 16)

    def test_give_outside_of_a_part(self):
        self.refused("give 1\ntell x", 1)
        self.refused("let x = 1\ngive x\ntell x", 2)
        self.refused("part f()\ngive 1\ngive 1\ntell x", 3)
        self.refused("part f()\ngive 1\nlet x = 1\ngive 1\ntell x", 4)
        self.refused("if 1\ngive 1\nend\ntell x", 2)

    def test_give_in_a_block(self):
        self.refused("part f()\nif 1\ngive 1\nend\ngive 1\ntell x", 3)
        self.refused("part f()\nif 1\nelse\ngive 1\nend\ngive 1\ntell x", 4)
        self.refused("part f()\nrounds 1\n\ngive 1\nend\ngive 1\ntell x", 4)

    def test_tell_in_a_part_or_a_block(self):
        self.refused("part f()\ntell x\ngive 1\ntell x", 2)
        self.refused("part f()\nlet x = 1\n \ntell x", 4)
        self.refused("if 1\ntell x\nend\ntell x", 2)
        self.refused("if 1\nelse\ntell x\nend\ntell x", 3)
        self.refused("rounds 1\ntell x\nend\ntell x", 2)
        self.refused("rounds 1\nif 1\nend\ntell x\nend\ntell x", 4)
        self.refused("part f()\nif 1\ntell x\nend\ngive 1\ntell x", 3)

    def test_else_and_end_without_a_block(self):
        for word in ("else", "end"):
            self.refused(f"{word}\ntell x", 1)
            self.refused(f"let x = 1\n{word}\ntell x", 2)
            self.refused(f"if 1\nend\n{word}\ntell x", 3)
            self.refused(f"rounds 1\nend\n\n{word}\ntell x", 4)
            self.refused(f"part f()\n{word}\ngive 1\ntell x", 2)
            self.refused(f"part f()\nif 1\nend\n{word}\ngive 1\ntell x", 4)
            self.refused(f"part f()\ngive 1\n{word}\ntell x", 3)

    def test_else_in_rounds(self):
        self.refused("rounds 1\nelse\nend\ntell x", 2)
        self.refused("if 1\nrounds 1\nelse\nend\nend\ntell x", 3)
        self.refused("rounds 1\nif 1\nend\nelse\nend\ntell x", 4)

    def test_a_second_else(self):
        self.refused("if 1\nelse\nelse\nend\ntell x", 3)
        self.refused("if 1\nelse\nlet x = 1\n\nelse\nend\ntell x", 5)
        self.refused("if 1\nelse\nif 1\nelse\nend\nelse\nend\ntell x", 6)
        self.refused("if 1\nif 1\nelse\nelse\nend\nend\ntell x", 4)

    def test_a_sixth_block(self):
        for last in ("if 1", "rounds 1", "rounds 0"):
            self.refused("if 1\n" * 5 + f"{last}\nend\n" + "end\n" * 5 + "tell x", 6)
            self.refused("rounds 1\n" * 5 + f"{last}\nend\n" + "end\n" * 5 + "tell x", 6)
            self.refused("if 1\nelse\n" * 5 + f"{last}\nend\n" + "end\n" * 5 + "tell x", 11)
            self.refused("part f()\n" + "if 1\n" * 5 + f"{last}\nend\n" + "end\n" * 5 + "give 1\ntell x", 7)
            self.refused("if 1\n" * 5 + "end\nif 1\n" + f"{last}\nend\nend\n" + "end\n" * 4 + "tell x", 8)


class Ends(Checks):
    def test_no_signs(self):
        self.refused("", 2)

    def test_rows_of_blanks_alone(self):
        self.refused("   ", 2)
        self.refused("\n", 3)
        self.refused("\n \n\n", 5)

    def test_no_tell_row(self):
        self.refused("let x = 1", 2)
        self.refused("let x = 1\n", 3)
        self.refused("let x = 1\n\nseen x\n  ", 5)
        self.refused("part f()\ngive 1", 3)

    def test_no_end_of_a_part_or_a_block(self):
        self.refused("part f()", 2)
        self.refused("part f()\nlet x = 1\n", 4)
        self.refused("part f()\nif 1", 3)
        self.refused("if 1", 2)
        self.refused("if 1\nelse\nlet x = 1", 4)
        self.refused("rounds 1\nif 1\nend", 4)
        self.refused("if 1\nend", 3)

    def test_five_hundred_rows_without_a_tell_row(self):
        self.refused("seen x\n" * 499 + "seen x", 501)
        self.refused("\n" * 499, 501)
        self.refused("seen x\n" * 498 + "seen x", 500)


class RowNumbers(Checks):
    def test_the_first_of_two_bad_rows(self):
        self.refused("let x = 1\nlet x\nx\ntell x", 2)
        self.refused("let x = 1\nend\nA\ntell x", 2)
        self.refused("let x = 1\nA\nend\ntell x", 2)
        self.refused("\n\nrounds 401\ntell", 3)
        self.refused("let x = 1\nseen x\ntell\n.", 3)
        self.refused("if 1\nlet x\nend\nend", 2)
        self.refused("x\n" * 600, 1)

    def test_rows_of_blanks_count(self):
        for many in (0, 1, 7, 498):
            self.refused("\n" * many + "x", many + 1)
            self.refused("   \n" * many + "x\ntell x", many + 1)

    def test_the_five_hundred_and_first(self):
        for row in ("", "   ", "tell x", "seen x", "x", "end", "\t"):
            self.refused("seen x\n" * 500 + row, 501)
            self.refused("\n" * 500 + row, 501)
        for row in ("", "   ", "seen x", "x", "tell x"):
            self.refused("seen x\n" * 499 + "tell x\n" + row, 501)
            self.refused("tell x\n" + "\n" * 499 + row, 501)
        self.refused("\n" * 499 + "tell x\n", 501)

    def test_the_five_hundred_and_first_and_later_ones(self):
        self.refused("\n" * 600 + "x", 501)
        self.refused("seen x\n" * 502 + "x\ntell x", 501)
        self.refused("tell x" + "\n" * 1000 + "x", 501)
        self.refused("seen x\n" * 999 + "tell x", 501)

    def test_a_bad_row_ahead_of_it(self):
        self.refused("seen x\n" * 499 + "x\n\n\n", 500)
        self.refused("x" + "\n" * 600, 1)
        self.refused("tell x\nx" + "\n" * 600, 2)


GRAMMAR = {
    "PROGRAM": (("PARTS", "ROWS", "tell x"),),
    "PARTS": ((), ("part f(a)", "ROWS", "give a", "PARTS")),
    "ROWS": ((), ("ROW", "ROWS")),
    "ROW": (("seen x",), ("if x", "ROWS", "end"), ("if x", "ROWS", "else", "ROWS", "end"), ("rounds 2", "ROWS", "end")),
}
KINDS = ("part f(a)", "give a", "seen x", "if x", "rounds 2", "else", "end", "tell x")


def expanded(waiting):
    """All that can be waited for next, with a row's own text at its head."""
    if not waiting or waiting[0] not in GRAMMAR:
        return {waiting}
    found = set()
    for form in GRAMMAR[waiting[0]]:
        found |= expanded(form + waiting[1:])
    return found


def first_bad(rows):
    """The number of the first row with which no text begins, of none None."""
    ways = expanded(("PROGRAM",))
    for number, row in enumerate(rows, start=1):
        after = {way[1:] for way in ways if way and way[0] == row}
        if not after:
            return number
        ways = set().union(*[expanded(way) for way in after])
    return None if () in ways else len(rows) + 1


class Orders(unittest.TestCase):
    def test_all_orders_of_few_rows(self):
        read_ones = 0
        for many in range(1, 6):
            for rows in itertools.product(KINDS, repeat=many):
                expected = first_bad(rows)
                try:
                    read("\n".join(rows))
                    told = None
                    read_ones += 1
                except NoText as refusal:
                    told = refusal.row
                self.assertEqual(told, expected, rows)
        self.assertGreater(read_ones, 20)


if __name__ == "__main__":
    unittest.main()
