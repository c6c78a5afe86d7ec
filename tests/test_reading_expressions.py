"""Reading the texts of expressions [9] [10]."""

import ast
import random
import unittest

from fairdraw.errors import DrawError, NoText
from fairdraw.reading import read_expression
from fairdraw.writing import show_expression

A, B, C = ("name", "a"), ("name", "b"), ("name", "c")
PAIRS = ("or", "and", "<", "=", "+", "-")
KEY_WORDS = "draw let seen if else end rounds part give call tell by pick and or not".split()


def made(chance, parts):
    """An expression of at most so many parts."""
    kind = chance.choice(["single", "not", "pick", "pair", "pair", "pair"])
    if parts < 2 or kind == "single":
        return chance.choice([A, B, C, ("num", 0), ("num", 12), ("num", 10 ** 60 - 1)])
    if kind == "not":
        return ("not", made(chance, parts - 1))
    if kind == "pick" and parts >= 4:
        return ("pick",) + tuple(made(chance, (parts - 1) // 3) for side in range(3))
    if parts < 3:
        return A
    left = chance.randrange(1, parts - 1)
    return (chance.choice(PAIRS), made(chance, left), made(chance, parts - 1 - left))


def two_levels():
    """Each sign on each side of each other one."""
    inner = [A, ("num", 7), ("not", A), ("pick", A, B, C)] + [(sign, A, B) for sign in PAIRS]
    found = [("not", one) for one in inner]
    for one in inner:
        found.extend([("pick", one, B, C), ("pick", B, one, C), ("pick", B, C, one)])
        for other in inner:
            found.extend((sign, one, other) for sign in PAIRS)
    return found


def bracket_pairs(text):
    """Places of the pairs of brackets that are not those of a pick."""
    waiting, found = [], []
    for place, sign in enumerate(text):
        if sign == "(":
            waiting.append(place)
        if sign == ")":
            begin = waiting.pop()
            if not text[:begin].endswith("pick"):
                found.append((begin, place))
    return found


def loosened(text, blank):
    """The text with so many blanks wherever blanks don't matter, none where none is needed."""
    words = text.replace("(", " ( ").replace(")", " ) ").replace(",", " , ").split()
    so_far = words[0]
    for last, word in zip(words, words[1:]):
        apart = blank or (" " if last[-1].isalnum() and word[0].isalnum() else "")
        so_far += apart + word
    return blank + so_far + blank


class Reading(unittest.TestCase):
    def check(self, text, expected):
        with self.subTest(text=text):
            told = read_expression(text)
            self.assertEqual(told, expected)
            self.check_kinds(told)

    def check_kinds(self, e):
        self.assertIs(e.__class__, tuple)
        self.assertIs(e[0].__class__, str)
        if e[0] == "num":
            self.assertIs(e[1].__class__, int)
        elif e[0] == "name":
            self.assertIs(e[1].__class__, str)
        else:
            for part in e[1:]:
                self.check_kinds(part)

    def test_single_things(self):
        self.check("0", ("num", 0))
        self.check("7", ("num", 7))
        self.check("10", ("num", 10))
        self.check("9" * 60, ("num", 10 ** 60 - 1))
        self.check("1" + "0" * 59, ("num", 10 ** 59))
        self.check("a", A)
        self.check("a1234567", ("name", "a1234567"))
        self.check("ends", ("name", "ends"))
        self.check("nota", ("name", "nota"))
        self.check("not1", ("name", "not1"))
        self.check("pick(a, b, c)", ("pick", A, B, C))

    def test_taken_from_the_left(self):
        self.check("a - b + c", ("+", ("-", A, B), C))
        self.check("a + b - c", ("-", ("+", A, B), C))
        self.check("a - b - c", ("-", ("-", A, B), C))
        self.check("a or b or c", ("or", ("or", A, B), C))
        self.check("a and b and c", ("and", ("and", A, B), C))
        self.check("a - b + c - a", ("-", ("+", ("-", A, B), C), A))

    def test_what_binds_more(self):
        self.check("a or b and c", ("or", A, ("and", B, C)))
        self.check("a and b or c", ("or", ("and", A, B), C))
        self.check("not a and b", ("and", ("not", A), B))
        self.check("a and not b", ("and", A, ("not", B)))
        self.check("not a or b", ("or", ("not", A), B))
        self.check("not a < b", ("not", ("<", A, B)))
        self.check("not a = b", ("not", ("=", A, B)))
        self.check("not a + b", ("not", ("+", A, B)))
        self.check("not not a", ("not", ("not", A)))
        self.check("a < b + c", ("<", A, ("+", B, C)))
        self.check("a - b = c", ("=", ("-", A, B), C))
        self.check("a < b and b = c", ("and", ("<", A, B), ("=", B, C)))
        self.check("not a < b and c", ("and", ("not", ("<", A, B)), C))

    def test_brackets(self):
        self.check("(a)", A)
        self.check("((7))", ("num", 7))
        self.check("a - (b + c)", ("-", A, ("+", B, C)))
        self.check("(a or b) and c", ("and", ("or", A, B), C))
        self.check("(a < b) < c", ("<", ("<", A, B), C))
        self.check("a < (b < c)", ("<", A, ("<", B, C)))
        self.check("a + (not b)", ("+", A, ("not", B)))
        self.check("not (a or b)", ("not", ("or", A, B)))
        self.check("(not a) + b", ("+", ("not", A), B))
        self.check("((a) + (b))", ("+", A, B))
        self.check("pick((a), (b or c), not c)", ("pick", A, ("or", B, C), ("not", C)))

    def test_blanks_do_not_matter(self):
        self.check("   a   ", A)
        self.check("a+b-c", ("-", ("+", A, B), C))
        self.check("a<b", ("<", A, B))
        self.check("  a   =b ", ("=", A, B))
        self.check("not(a)", ("not", A))
        self.check("(a)or(b)", ("or", A, B))
        self.check("pick  (a,b  ,  c  )", ("pick", A, B, C))
        self.check("pick(a,b,c)", ("pick", A, B, C))
        self.check("not   not(a)and(b)", ("and", ("not", ("not", A)), B))

    def test_what_was_written_is_read(self):
        chance = random.Random(9)
        for e in two_levels() + [made(chance, 40) for time in range(300)]:
            text = show_expression(e)
            self.check(text, e)
            self.check(f"({text})", e)
            self.check(f" ( ( {text} ) ) ", e)
            self.check(loosened(text, ""), e)
            self.check(loosened(text, " "), e)
            self.check(loosened(text, "   "), e)

    def test_written_with_the_fewest_brackets(self):
        chance = random.Random(10)
        for e in two_levels() + [made(chance, 12) for time in range(300)]:
            text = show_expression(e)
            for begin, end in bracket_pairs(text):
                bare = text[:begin] + text[begin + 1:end] + text[end + 1:]
                try:
                    told = read_expression(bare)
                except NoText:
                    continue
                self.assertNotEqual(told, e, text)


class Bounds(unittest.TestCase):
    def refused(self, text):
        with self.assertRaises(NoText) as caught:
            read_expression(text)
        self.assertEqual(caught.exception.row, 1)

    def test_forty_parts(self):
        read_expression("not " * 39 + "a")
        self.refused("not " * 40 + "a")
        for sign in ("or", "and", "+", "-"):
            read_expression("not " + f" {sign} ".join(["a"] * 20))
            self.refused(f" {sign} ".join(["a"] * 21))
        read_expression("pick(" + " + ".join(["1"] * 6) + ", " + " or ".join(["a"] * 7) + ", "
                        + " - ".join(["b"] * 8) + ")")
        self.refused("pick(" + " + ".join(["1"] * 7) + ", " + " or ".join(["a"] * 7) + ", "
                     + " - ".join(["b"] * 8) + ")")
        read_expression("(not a) < " + " + ".join(["(b)"] * 19))
        self.refused("(not a) < " + " + ".join(["(b)"] * 19 + ["(not 1)"]))

    def test_forty_parts_are_kept_whole(self):
        e = A
        for time in range(39):
            e = ("not", e)
        self.assertEqual(read_expression("not " * 39 + "a"), e)
        e = ("num", 0)
        for k in range(1, 20):
            e = ("+", e, ("num", k))
        self.assertEqual(read_expression("+".join(str(k) for k in range(20))), e)

    def test_twenty_four_brackets(self):
        self.assertEqual(read_expression("(" * 24 + "a" + ")" * 24), A)
        self.refused("(" * 25 + "a" + ")" * 25)
        for deep in (23, 24):
            text = "(" * deep + "a" + ")" * deep
            self.assertEqual(read_expression(f"{text} + {text}"), ("+", A, A))
        self.refused("(" * 24 + "a" + ")" * 24 + " + " + "(" * 25 + "a" + ")" * 25)

    def test_brackets_of_pick_count(self):
        for many in range(1, 9):
            inner = "pick(" * many + "a" + ", 0, 1)" * many
            e = A
            for time in range(many):
                e = ("pick", e, ("num", 0), ("num", 1))
            around = 24 - many
            self.assertEqual(read_expression("(" * around + inner + ")" * around), e)
            self.refused("(" * (around + 1) + inner + ")" * (around + 1))
        self.assertEqual(read_expression("pick(a, b, " + "(" * 23 + "c" + ")" * 24), ("pick", A, B, C))
        self.refused("pick(a, b, " + "(" * 24 + "c" + ")" * 25)

    def test_sixty_figures(self):
        read_expression("a + " + "1" * 60)
        for text in ("1" * 61, "9" * 61, "1" * 5000, "a + " + "1" * 61, "0" * 61):
            self.refused(text)

    def test_great_texts_that_are_none(self):
        for text in (
            "(" * 10000, ")" * 10000, "not " * 2500, "not " * 2499 + "a", "a+" * 4999 + "a", "1" * 10000, "a" * 10000,
            "pick(" * 2000, " " * 10000, "(" * 5000 + ")" * 5000, "- " * 5000, "a or " * 1999 + "a",
        ):
            self.refused(text)

    def test_many_blanks(self):
        self.assertEqual(read_expression(" " * 4999 + "a" + " " * 5000), A)


class Refusals(unittest.TestCase):
    def refused(self, text):
        with self.subTest(text=text):
            with self.assertRaises(NoText) as caught:
                read_expression(text)
            self.assertEqual(caught.exception.row, 1)
            self.assertIsInstance(caught.exception, DrawError)

    def test_no_words(self):
        for text in ("", " ", "     ", "()", "( )", "(())", ","):
            self.refused(text)

    def test_numbers(self):
        for text in ("00", "01", "007", "a + 01", "1 2", "1a", "1 + 2b", "0a", "12ab", "1not", "-1", "+1", "1.5", "1/2"):
            self.refused(text)

    def test_names(self):
        for word in KEY_WORDS:
            self.refused(word)
            self.refused(f"a + {word}")
            self.refused(f"{word} = a")
        for text in ("abcdefghi", "a12345678", "a + abcdefghi", "a b", "a 1", "f(a)", "a(b)", "f()", "pick"):
            self.refused(text)

    def test_other_signs(self):
        for sign in range(0, 300):
            if chr(sign) not in " +-<=(),abcdefghijklmnopqrstuvwxyz0123456789":
                self.refused(chr(sign))
                self.refused("a " + chr(sign))
                self.refused(chr(sign) + "a")
                self.refused("a" + chr(sign) + "+ b")
        for text in (
            "A", "a + B", "a\t+ b", "\ta", "a\t", "a\n", "\na", "a +\nb", "a\n\n", "a > b", "a * b", "a == b", "a != b",
            "a <= b", "[a]", "a; b", "a: b", "a / b", "a % b", "a_b", "a\u00a0+ b", "\u0661", "a\r", "a \u2003b",
        ):
            self.refused(text)

    def test_comparisons_one_behind_the_other(self):
        for one in "<=":
            for other in "<=":
                self.refused(f"a {one} b {other} c")
                self.refused(f"not a {one} b {other} c")
                self.refused(f"(a {one} b {other} c)")
                self.refused(f"a + b {one} b - c {other} c + a")

    def test_not_where_it_cannot_stand(self):
        for sign in "+-<=":
            self.refused(f"a {sign} not b")
            self.refused(f"a {sign} b {sign} not b")
        for text in ("a not b", "a not", "(a) not b", "1 not"):
            self.refused(text)

    def test_a_sign_without_its_side(self):
        for sign in PAIRS:
            for text in (sign, f"a {sign}", f"{sign} a", f"a {sign} {sign} b", f"(a {sign}) b", f"a ({sign} b)",
                         f"({sign})", f"not {sign} a", f"pick(a {sign}, b, c)", f"pick(a, {sign} b, c)"):
                self.refused(text)
        for text in ("not", "not not", "(not)", "a and not", "pick(not, a, b)"):
            self.refused(text)

    def test_brackets_that_do_not_fit(self):
        for text in ("(a", "a)", ")a(", "((a)", "(a))", "(a + b", "a + b)", "(a)(b)", "(a) b", "a (b)", "1 (b)",
                     "(a, b)", "(a,)", "a, b", "pick(a, b, c", "pick a, b, c)", "pick(a, b, c))", "pick a, b, c",
                     "(pick)(a, b, c)", "pick((a, b, c))", "pick(a, (b, c))", "pick(a, (b), c"):
            self.refused(text)

    def test_pick_of_others_than_three(self):
        for text in ("pick()", "pick(a)", "pick(a, b)", "pick(a, b, c, a)", "pick(a, b, c,)", "pick(,a, b, c)",
                     "pick(a,, b)", "pick(a b c)", "pick(a, b,)", "pick(,,)", "pick(a, b c)"):
            self.refused(text)


class AsPythonReads(unittest.TestCase):
    """Python's own signs bind alike, so that its reading can be held against the program's."""

    def of(self, node):
        """The expression of a piece of Python, or None where it has another form."""
        if isinstance(node, ast.Name):
            return ("name", node.id)
        if isinstance(node, ast.Constant):
            return ("num", node.value)
        if isinstance(node, ast.UnaryOp) and isinstance(node.op, ast.Not):
            return self.joined("not", [node.operand])
        if isinstance(node, ast.BoolOp):
            sign = "or" if isinstance(node.op, ast.Or) else "and"
            e = self.of(node.values[0])
            for side in node.values[1:]:
                other = self.of(side)
                e = None if e is None or other is None else (sign, e, other)
            return e
        if isinstance(node, ast.Compare) and len(node.ops) == 1:
            sign = "<" if isinstance(node.ops[0], ast.Lt) else "="
            return self.joined(sign, [node.left, node.comparators[0]])
        if isinstance(node, ast.BinOp):
            return self.joined("+" if isinstance(node.op, ast.Add) else "-", [node.left, node.right])
        if isinstance(node, ast.Call) and ast.unparse(node.func) == "pick" and len(node.args) == 3:
            return self.joined("pick", node.args)
        return None

    def joined(self, sign, nodes):
        sides = [self.of(node) for node in nodes]
        return None if None in sides else tuple([sign] + sides)

    def expected(self, words):
        # Python lets by what the document does not: a comma ahead of a bracket, and brackets round pick
        text = " ".join(words)
        if ", )" in text or "( pick )" in text:
            return None
        if "pick" in [word for word, later in zip(words, words[1:] + [""]) if later != "("]:
            return None
        try:
            return self.of(ast.parse(" ".join(["==" if word == "=" else word for word in words]), mode="eval").body)
        except SyntaxError:
            return None

    def told(self, words):
        try:
            return read_expression(" ".join(words))
        except NoText as refusal:
            self.assertEqual(refusal.row, 1)
            return None

    def test_words_strewn(self):
        chance = random.Random(11)
        words = ["a", "b", "1", "(", ")", "+", "-", "<", "=", "and", "or", "not", "not", "pick", ","]
        for time in range(6000):
            some = [chance.choice(words) for place in range(chance.randrange(1, 8))]
            self.assertEqual(self.told(some), self.expected(some), some)

    def test_words_taken_out_put_in_and_swapped(self):
        chance = random.Random(12)
        words = ["a", "1", "(", ")", "+", "-", "<", "=", "and", "or", "not", "pick", ","]
        read = 0
        for time in range(4000):
            text = show_expression(made(chance, 9))
            some = text.replace("(", " ( ").replace(")", " ) ").replace(",", " , ").split()
            place = chance.randrange(len(some))
            some[place:place + chance.randrange(2)] = chance.choice([[], [chance.choice(words)]])
            told = self.told(some)
            self.assertEqual(told, self.expected(some), some)
            read += told is not None
        self.assertGreater(read, 500)


if __name__ == "__main__":
    unittest.main()
