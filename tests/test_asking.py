"""Told shares of sheets by the graph of questions, and values that are the same [30] [31] [32] [2]."""

import copy
import itertools
import unittest
from fractions import Fraction

from fairdraw.asking import by_graph, same
from fairdraw.errors import CannotBe, TooMany
from fairdraw.reading import read
from fairdraw.spreading import spread
from fairdraw.walking import walked
from helper import PlainGraph, drawn, even, plain_graph_most, plain_nodes, plain_rows, plain_shares, strewn

GREAT = 10 ** 60 - 1


def plain_same(sheet, one, other):
    """Whether two values are equal in all ways, or None where there is none."""
    books = [book for book, share in plain_rows(sheet[1], {}, [])]
    return all(book[one] == book[other] for book in books) if books else None


def most_of_same(sheet, one, other):
    """The least `most` with which two values are told the same or not."""
    graph = PlainGraph(sheet)
    equal = ("=", ("name", one), ("name", other))
    for e in (equal, ("not", equal), ("and", graph.seen, ("not", equal))):
        graph.sizes.append(len(plain_nodes(graph.node(e))))
    return max(graph.sizes)


def coins(names):
    return "".join(even(name, 2) for name in names)


class GraphCase(unittest.TestCase):
    def check(self, text, *rows):
        sheet = read(text)
        kept = copy.deepcopy(sheet)
        found = by_graph(sheet)
        self.assertEqual(found, list(rows))
        self.assertIs(found.__class__, list)
        self.assertEqual(walked(sheet), list(rows))
        self.assertEqual(sheet, kept)

    def refused(self, most, ask, sheet, *more):
        kept = copy.deepcopy(sheet)
        with self.assertRaises(TooMany) as caught:
            ask(sheet, *more)
        self.assertEqual(caught.exception.most, most)
        self.assertEqual(sheet, kept)

    def check_most(self, text, most):
        """Told with just so many, refused with one less."""
        sheet = read(text)
        self.assertEqual(plain_graph_most(sheet), most)
        self.check_least(sheet, most)

    def check_least(self, sheet, most):
        expected = plain_shares(sheet)
        if expected is None:
            self.assertRaises(CannotBe, by_graph, sheet, most)
        else:
            self.assertEqual(by_graph(sheet, most), expected)
        if most > 1:
            self.refused(most - 1, by_graph, sheet, most - 1)

    def check_same(self, text, one, other, expected, *most):
        sheet = read(text)
        kept = copy.deepcopy(sheet)
        for names in ((one, other), (other, one)):
            self.assertIs(same(sheet, *names, *most), expected)
        self.assertEqual(sheet, kept)


class Told(GraphCase):
    def test_draws(self):
        self.check("draw a: 1 by 1/3, 0 by 2/3\ntell a", ((0,), (2, 3)), ((1,), (1, 3)))
        self.check("draw a: 9 by 1/1\ntell a", ((9,), (1, 1)))
        self.check(
            f"draw a: {GREAT} by 1/6, -{GREAT} by 1/6, 10 by 1/6, 9 by 1/6, -10 by 1/6, -9 by 1/6\ntell a",
            *[((number,), (1, 6)) for number in (-GREAT, -10, -9, 9, 10, GREAT)],
        )
        self.check(
            "draw b: 0 by 1/3, 1 by 2/3\ndraw a: 5 by 1/4, 4 by 3/4\ntell a, b",
            ((4, 0), (1, 4)), ((4, 1), (1, 2)), ((5, 0), (1, 12)), ((5, 1), (1, 6)),
        )

    def test_lets(self):
        self.check("let a = 3\ntell a", ((3,), (1, 1)))
        self.check("let b = 3\nlet a = b - 4\ntell a, b", ((-1, 3), (1, 1)))
        self.check("draw b: 0 by 1/3, 2 by 2/3\nlet a = not b\nlet c = pick(b, b + b, 7)\ntell a, c",
                   ((0, 4), (2, 3)), ((1, 7), (1, 3)))
        self.check(coins("ab") + "let c = a + b\ntell c", ((0,), (1, 4)), ((1,), (1, 2)), ((2,), (1, 4)))

    def test_seens(self):
        self.check(even("a", 3) + "seen a\ntell a", ((1,), (1, 2)), ((2,), (1, 2)))
        self.check(even("a", 3) + even("b", 3) + "seen a < b\nseen b = 2\ntell a", ((0,), (1, 2)), ((1,), (1, 2)))
        self.check("seen 7\nlet a = 1\ntell a", ((1,), (1, 1)))
        # what was seen is a number other than 0 and 1
        self.check(drawn("a", 0, 5, -5) + "seen a\nseen a + 5\ntell a", ((5,), (1, 1)))

    def test_draws_that_no_tell_needs(self):
        self.check(coins("abc") + "tell b", ((0,), (1, 2)), ((1,), (1, 2)))
        self.check(coins("abc") + "seen a = c\nseen c\ntell b", ((0,), (1, 2)), ((1,), (1, 2)))
        self.check(coins("ab") + "let c = 4\ntell c", ((4,), (1, 1)))

    def test_names_told_in_their_order(self):
        text = "draw b: 0 by 1/3, 1 by 2/3\nlet a = 7 - b\nlet c = 5\n"
        self.check(text + "tell b, a", ((0, 7), (1, 3)), ((1, 6), (2, 3)))
        self.check(text + "tell a, b", ((6, 1), (2, 3)), ((7, 0), (1, 3)))
        self.check(text + "tell c, a, b", ((5, 6, 1), (2, 3)), ((5, 7, 0), (1, 3)))

    def test_alike_rows_become_one(self):
        text = coins(["a", "b", "c", "d"]) + "let s = a + b + c + d\ntell s"
        self.check(text, *[((number,), (share.numerator, share.denominator)) for number, share in enumerate(
            [Fraction(1, 16), Fraction(1, 4), Fraction(3, 8), Fraction(1, 4), Fraction(1, 16)])])

    def test_answers_in_the_order_of_the_outcomes(self):
        self.check("draw a: 5 by 1/2, -5 by 1/3, 0 by 1/6\nlet b = a + 1\ntell b",
                   ((-4,), (1, 3)), ((1,), (1, 6)), ((6,), (1, 2)))

    def test_shares_are_divided(self):
        self.check("draw a: 0 by 1/6, 1 by 1/3, 2 by 1/2\nseen a < 2\ntell a", ((0,), (1, 3)), ((1,), (2, 3)))

    def test_cannot_be(self):
        for text in (
            "seen 0\nlet a = 1\ntell a", "let a = 1\nseen a = 2\ntell a", even("a", 3) + "seen a = 3\ntell a",
            coins("ab") + "seen a\nseen b\nseen not (a and b)\ntell a",
            even("a", 2) + "seen a\nseen not a\nlet c = 1\ntell c",
        ):
            sheet = read(text)
            kept = copy.deepcopy(sheet)
            with self.subTest(text=text):
                self.assertRaises(CannotBe, by_graph, sheet)
                self.assertEqual(sheet, kept)

    def test_strewn(self):
        for program in strewn(300):
            sheet = spread(program)
            kept = copy.deepcopy(sheet)
            with self.subTest(program=program):
                expected = plain_shares(sheet)
                if expected is None:
                    self.assertRaises(CannotBe, by_graph, sheet, 10 ** 6)
                else:
                    self.assertEqual(by_graph(sheet, 10 ** 6), expected)
                self.assertEqual(sheet, kept)


class Most(GraphCase):
    def test_nodes(self):
        self.check_most("let a = 4\nseen a\ntell a", 1)
        self.check_most(even("a", 6) + "tell a", 7)
        self.check_most(coins("ab") + "let c = a + b\ntell c", 6)
        self.check_most(coins("abc") + "seen a = b\ntell c", 5)

    def test_nodes_that_no_tell_needs(self):
        self.check_most(coins("abcd") + "let s = a + b + c + d\nlet t = 1\ntell t", 15)
        self.check_most(even("a", 6) + "let t = 1\ntell t", 7)

    def test_nodes_of_parts_of_expressions(self):
        for e in ("0 and a + b + c", "a + b + c and 0", "pick(1, 2, a + b + c)", "(a + b + c) - (a + b + c)",
                  "not (a + b + c + 1)", "1 or a + b + c"):
            self.check_most(coins("abc") + "let s = " + e + "\ntell s", 10)
            self.check_most(coins("abc") + "seen (" + e + ") + 1\ntell a", 10)

    def test_nodes_ahead_of_what_cannot_be(self):
        self.check_most("seen 0\n" + coins("abc") + "let s = a + b + c\ntell s", 10)
        self.check_most(coins("abc") + "seen 0\nseen a + b + c\ntell a", 10)

    def test_what_was_seen(self):
        # each seen row has three nodes more than leaves, what all see together has more
        self.check_most(coins("abcd") + "seen a = b\nseen c = d\ntell a", 8)
        self.check_most(coins("abcd") + "seen a = c\nseen b = d\ntell a", 11)

    def test_rows(self):
        # the nodes have three each
        self.check_most(coins("abcd") + "tell a, b, c, d", 16)
        self.check_most(coins("abcd") + "tell a, b", 4)
        self.check_most(coins("abcd") + "tell d, b, a", 8)

    def test_rows_alike_are_counted_once(self):
        # behind the first two questions their sum is left
        self.check_most(coins("abcd") + "let s = a + b\nlet t = c + d\ntell s, t", 9)

    def test_rows_left_out_are_not_counted(self):
        self.check_most(coins("abcde") + "seen a\nseen b\ntell a, b, c, d, e", 8)
        self.check_most(coins("abcde") + "seen d\nseen e\ntell a, b, c, d, e", 8)
        # only the last question tells which rows go
        self.check_most(coins("abcde") + "seen e\ntell a, b, c, d, e", 16)
        self.check_most(coins("abcd") + "seen a or d\ntell a, b, c, d", 12)
        self.check_most(coins("abcdef") + "seen 0\ntell a, b, c, d, e, f", 3)

    def test_the_built_in_most(self):
        text = even("a", 5) + even("b", 5) + even("c", 5)
        self.assertEqual(len(by_graph(read(text + even("d", 4) + "tell a, b, c, d"))), 500)
        # five hundred and one: one of them all goes two ways
        text += even("d", 4) + even("e", 2) + "let f = pick(a + b + c + d = 0, e, 0)\n"
        self.refused(500, by_graph, read(text + "tell a, b, c, d, f"))
        self.assertEqual(len(by_graph(read(text + "tell a, b, c, d, f"), 501)), 501)
        # nodes
        rows = ["let s0 = 0\n"]
        for number in range(31):
            rows.append(even(f"x{number}", 2) + f"let s{number + 1} = s{number} + x{number}\n")
        self.assertEqual(len(by_graph(read("".join(rows[:-1]) + "tell s30"))), 31)
        sheet = read("".join(rows) + "let t = 1\ntell t")
        self.refused(500, by_graph, sheet)
        self.refused(500, same, sheet, "t", "t")
        self.assertEqual(by_graph(sheet, 528), [((1,), (1, 1))])
        self.refused(527, by_graph, sheet, 527)

    def test_strewn(self):
        for program in strewn(250, 40):
            sheet = spread(program)
            with self.subTest(program=program):
                self.check_least(sheet, plain_graph_most(sheet))


class Same(GraphCase):
    def test_equal_values(self):
        self.check_same(even("a", 3) + "let b = a\nlet c = a + 1 - 1\ntell a", "a", "b", True)
        self.check_same(even("a", 3) + "let b = a\nlet c = a + 1 - 1\ntell a", "b", "c", True)
        self.check_same("let a = 4\nlet b = 2 + 2\ntell a", "a", "b", True)
        self.check_same(coins("ab") + "let c = not (a and b)\nlet d = not a or not b\ntell a", "c", "d", True)

    def test_unlike_values(self):
        self.check_same(coins("ab") + "tell a", "a", "b", False)
        self.check_same("let a = 4\nlet b = 5\ntell a", "a", "b", False)
        self.check_same(even("a", 3) + "let b = not not a\ntell a", "a", "b", False)
        # unlike in one way of many
        text = coins("abcde") + "let x = a + b + c + d + e\nlet y = pick(x = 5, 6, x)\ntell a"
        self.check_same(text, "x", "y", False)
        # truths of the same kind are not enough
        self.check_same("let a = 1\nlet b = 2\ntell a", "a", "b", False)

    def test_equal_where_what_was_seen_holds(self):
        self.check_same(coins("ab") + "seen a = b\ntell a", "a", "b", True)
        self.check_same(even("a", 3) + "let b = not not a\nseen a < 2\ntell a", "a", "b", True)
        self.check_same(even("a", 3) + "let b = not not a\nseen a\ntell a", "a", "b", False)
        self.check_same(coins("abc") + "seen a = b\nseen b = c\ntell a", "a", "c", True)
        self.check_same(coins("abc") + "seen a = b\nseen b = c\nseen c\nlet d = 1\ntell a", "a", "d", True)
        self.check_same(coins("ab") + "seen a + b\ntell a", "a", "b", False)
        # what is seen behind both
        self.check_same(drawn("a", 3, 4) + drawn("b", 4, 6) + "let c = 1\nseen a + b = 8\ntell c", "a", "b", True)

    def test_one_name_twice(self):
        text = even("a", 3) + "let b = a + a\nseen b\ntell a"
        for name in ("a", "b"):
            self.check_same(text, name, name, True)

    def test_cannot_be(self):
        for text in ("let a = 1\nlet b = 1\nseen 0\ntell a", coins("ab") + "seen a\nseen not a\ntell a",
                     coins("ab") + "seen a < b\nseen b < a\ntell b"):
            for names in (("a", "b"), ("b", "a"), ("a", "a")):
                self.assertRaises(CannotBe, same, read(text), *names)

    def test_cannot_be_ahead_of_what_is_met(self):
        # each draw has seven nodes, their comparison nine
        text = even("a", 6) + even("b", 6)
        self.refused(8, same, read(text + "tell a"), "a", "b", 8)
        self.assertIs(same(read(text + "tell a"), "a", "b", 9), False)
        for most in (7, 8, 9):
            self.assertRaises(CannotBe, same, read(text + "seen 0\ntell a"), "a", "b", most)
        # the nodes of the rows are ahead of it
        self.refused(6, same, read(text + "seen 0\ntell a"), "a", "b", 6)

    def test_nodes_of_all_rows_come_first(self):
        sheet = read(coins("abc") + "seen 0\nlet s = a + b + c\ntell a")
        self.refused(9, same, sheet, "a", "a", 9)
        self.assertRaises(CannotBe, same, sheet, "a", "a", 10)

    def test_rows_count_for_nothing(self):
        # to tell all would take 32 rows, but no rows are asked for
        self.assertIs(same(read(coins("abcde") + "let f = a\ntell a, b, c, d, e"), "a", "f", 3), True)

    def test_most_of_the_last_meeting(self):
        text = coins("abcd") + "let x = a\nseen a = c\ntell a"
        for one, other in itertools.combinations("abcdx", 2):
            sheet = read(text)
            most = most_of_same(sheet, one, other)
            self.assertIs(same(sheet, one, other, most), plain_same(sheet, one, other))
            self.refused(most - 1, same, sheet, one, other, most - 1)

    def test_the_built_in_most(self):
        # two sums of coins, drawn by turns: each has few nodes, but to compare them takes many
        rows = ["let s = 0\nlet t = 0\n"]
        for number in range(24):
            rows.append(even(f"x{number}", 2) + f"let s{number} = s{number - 1} + x{number}\n")
            rows.append(even(f"y{number}", 2) + f"let t{number} = t{number - 1} + y{number}\n")
        sheet = read("".join(rows).replace("s-1", "s").replace("t-1", "t") + "tell s")
        self.assertEqual(len(by_graph(sheet)), 1)
        self.assertIs(same(sheet, "s23", "s23"), True)
        self.assertIs(same(sheet, "s23", "s22"), False)
        self.refused(500, same, sheet, "s23", "t23")
        self.assertIs(same(sheet, "s23", "t23", 2000), False)

    def test_strewn(self):
        for program in strewn(120, 40):
            sheet = spread(program)
            names = [row[1] for row in sheet[1] if row[0] != "seen"][:7]
            kept = copy.deepcopy(sheet)
            for one, other in itertools.product(names, repeat=2):
                with self.subTest(program=program, one=one, other=other):
                    expected = plain_same(sheet, one, other)
                    if expected is None:
                        self.assertRaises(CannotBe, same, sheet, one, other, 10000)
                    else:
                        self.assertIs(same(sheet, one, other, 10000), expected)
            self.assertEqual(sheet, kept)

    def test_strewn_most(self):
        for program in strewn(60, 20):
            sheet = spread(program)
            names = [row[1] for row in sheet[1] if row[0] != "seen"]
            one, other = names[0], names[-1]
            expected = plain_same(sheet, one, other)
            if expected is None:
                continue
            most = most_of_same(sheet, one, other)
            with self.subTest(program=program):
                self.assertIs(same(sheet, one, other, most), expected)
                if most > 1:
                    self.refused(most - 1, same, sheet, one, other, most - 1)


class LittleTime(GraphCase):
    def test_sixty_draws(self):
        rows = ["let x0 = 0\n"]
        for number in range(60):
            rows.append(even(f"e{number}", 6) + f"let x{number + 1} = x{number} = (e{number} < 3)\n")
        sheet = read("".join(rows) + "tell x60, x1")
        self.assertEqual(by_graph(sheet), [(numbers, (1, 4)) for numbers in ((0, 0), (0, 1), (1, 0), (1, 1))])
        self.assertIs(same(sheet, "x60", "x59"), False)
        self.assertIs(same(sheet, "x60", "x60"), True)

    def test_sixty_seens(self):
        rows = [even(f"e{number}", 3) + f"seen e{number}\n" for number in range(60)]
        self.assertEqual(by_graph(read("".join(rows) + "tell e0, e59")),
                         [(numbers, (1, 4)) for numbers in ((1, 1), (1, 2), (2, 1), (2, 2))])

    def test_four_hundred_rows(self):
        rows = [even("v0", 6)] + [f"let v{number} = v{number - 1} + v0 - v0\n" for number in range(1, 400)]
        sheet = read("".join(rows) + "tell v399")
        self.assertEqual(by_graph(sheet, 7), [((number,), (1, 6)) for number in range(6)])
        self.assertIs(same(sheet, "v399", "v0", 7), True)


class NothingShared(unittest.TestCase):
    def test_what_was_told_is_new_and_stays(self):
        sheet = read(coins("ab") + "let c = a\nseen a + b\ntell c, b")
        kept = copy.deepcopy(sheet)
        found = by_graph(sheet)
        expected = list(found)
        found.clear()
        self.assertEqual(sheet, kept)
        found = by_graph(sheet)
        self.assertEqual(found, expected)
        sheet[1][0][2].clear()
        sheet[1].clear()
        sheet[2].clear()
        self.assertEqual(found, expected)


if __name__ == "__main__":
    unittest.main()
