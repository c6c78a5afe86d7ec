"""Told shares of sheets by their tables [27] [2]."""

import copy
import itertools
import random
import unittest

from fairdraw.errors import CannotBe, TooMany
from fairdraw.kinds import by_tables, kinds, tables_of
from fairdraw.pushing import best_order
from fairdraw.reading import read
from fairdraw.spreading import spread
from helper import drawn, even, plain_kinds, plain_shares, plain_tables_most, strewn


def names_given(sheet):
    return [row[1] for row in sheet[1] if row[0] != "seen"]


class TablesCase(unittest.TestCase):
    def check(self, text, *rows):
        sheet = read(text)
        kept = copy.deepcopy(sheet)
        expected = list(rows)
        self.assertEqual(by_tables(sheet), expected)
        self.assertIs(by_tables(sheet).__class__, list)
        self.assertEqual(by_tables(sheet, None), expected)
        self.assertEqual(by_tables(sheet, None, 1000), expected)
        names = [name for name in names_given(sheet) if name not in sheet[2]]
        for order in list(itertools.permutations(names))[:24]:
            order = list(order)
            order_kept = list(order)
            self.assertEqual(by_tables(sheet, order, 1000), expected)
            self.assertEqual(order, order_kept)
        self.assertEqual(sheet, kept)

    def refused(self, sheet, most, *more):
        kept = copy.deepcopy((sheet, more))
        with self.assertRaises(TooMany) as caught:
            by_tables(sheet, *more)
        self.assertEqual(caught.exception.most, most)
        self.assertEqual((sheet, more), kept)


class Told(TablesCase):
    def test_draws_alone(self):
        self.check("draw a: 1 by 1/3, 0 by 2/3\ntell a", ((0,), (2, 3)), ((1,), (1, 3)))
        self.check("draw a: 1 by 1/3, 0 by 2/3\n" + even("b", 2) + "tell a", ((0,), (2, 3)), ((1,), (1, 3)))

    def test_lets(self):
        self.check("let a = 4\ntell a", ((4,), (1, 1)))
        text = even("a", 2) + even("b", 2) + "let c = a + b\ntell c"
        self.check(text, ((0,), (1, 4)), ((1,), (1, 2)), ((2,), (1, 4)))
        # the kinds of a - b are three, but just one of them can be
        self.check(even("a", 2) + "let b = a\nlet c = a - b\ntell c", ((0,), (1, 1)))

    def test_seens(self):
        self.check(even("a", 3) + "seen a\ntell a", ((1,), (1, 2)), ((2,), (1, 2)))
        self.check(even("a", 3) + even("b", 3) + "seen a < b\ntell a", ((0,), (2, 3)), ((1,), (1, 3)))
        self.check("seen 1\nlet a = 2\ntell a", ((2,), (1, 1)))
        self.check(even("a", 2) + "let b = a\nseen b\nlet c = a + 5\ntell c", ((6,), (1, 1)))

    def test_names_told(self):
        text = "draw b: 0 by 1/3, 1 by 2/3\nlet a = 7 - b\nlet c = 5\n"
        self.check(text + "tell a", ((6,), (2, 3)), ((7,), (1, 3)))
        self.check(text + "tell b, a", ((0, 7), (1, 3)), ((1, 6), (2, 3)))
        self.check(text + "tell a, b", ((6, 1), (2, 3)), ((7, 0), (1, 3)))
        self.check(text + "tell c, b, a", ((5, 0, 7), (1, 3)), ((5, 1, 6), (2, 3)))
        self.check(text + "tell c, a, b", ((5, 6, 1), (2, 3)), ((5, 7, 0), (1, 3)))
        self.check(text + "tell c", ((5,), (1, 1)))

    def test_great_numbers(self):
        great = 10 ** 60 - 1
        self.check(
            drawn("a", great, -great) + "let b = a + a\nseen b < 0 or not b < 0\ntell b, a",
            ((-2 * great, -great), (1, 2)), ((2 * great, great), (1, 2)),
        )

    def test_cannot_be(self):
        for text in (
            "let a = 1\nseen 0\ntell a", even("a", 2) + "seen a = 2\ntell a",
            even("a", 2) + "seen a\nseen not a\ntell a", even("a", 2) + "seen a = 2\nlet c = 1\ntell c",
            even("a", 2) + "let b = a\nseen a < b\nlet c = 1\ntell c",
        ):
            sheet = read(text)
            names = [name for name in names_given(sheet) if name not in sheet[2]]
            kept = copy.deepcopy(sheet)
            with self.subTest(text=text):
                self.assertRaises(CannotBe, by_tables, sheet)
                for order in itertools.permutations(names):
                    self.assertRaises(CannotBe, by_tables, sheet, list(order))
                self.assertEqual(sheet, kept)

    def test_strewn_in_several_orders(self):
        chance = random.Random(3)
        for program in strewn(200):
            sheet = spread(program)
            expected = plain_shares(sheet)
            names = [name for name in names_given(sheet) if name not in sheet[2]]
            kept = copy.deepcopy(sheet)
            for order in (None, names, names[::-1], chance.sample(names, len(names))):
                with self.subTest(program=program, order=order):
                    try:
                        found = by_tables(sheet, order, 5000)
                    except CannotBe:
                        found = None
                    except TooMany:
                        continue
                    self.assertEqual(found, expected)
            self.assertEqual(sheet, kept)


class Order(TablesCase):
    # the hub first joins all tables, the others first join two at a time
    star = even("h", 2) + "".join(
        even(f"e{number}", 2) + f"let a{number} = h + e{number}\n" for number in range(5)
    )

    def test_handed_in(self):
        sheet = read(self.star + "tell a0")
        others = [name for name in names_given(sheet) if name not in ("h", "a0")]
        expected = [((0,), (1, 4)), ((1,), (1, 2)), ((2,), (1, 4))]
        self.assertEqual(by_tables(sheet, others + ["h"], 6), expected)
        self.assertEqual(by_tables(sheet, ["h"] + others, 500), expected)
        self.refused(sheet, 6, ["h"] + others, 6)
        self.refused(sheet, 30, ["h"] + others, 30)
        most = plain_tables_most(sheet, ["h"] + others)
        self.assertEqual(by_tables(sheet, ["h"] + others, most), expected)
        self.refused(sheet, most - 1, ["h"] + others, most - 1)

    def test_the_best_one(self):
        # the tells are kept, and count: with them the hub is told last, else the order is another one
        for tells in ("a0", "h", "a4, a0", "e0, h", "a0, a1, a2, a3"):
            sheet = read(self.star + "tell " + tells)
            with self.subTest(tells=tells):
                scopes = [list(table[0]) for table in tables_of(sheet)]
                order = best_order(scopes, sheet[2])
                self.assertEqual(sorted(order + sheet[2]), sorted(names_given(sheet)))
                most = plain_tables_most(sheet)
                self.assertEqual(by_tables(sheet, None, most), by_tables(sheet, order, most))
                self.assertEqual(by_tables(sheet, None, most), plain_shares(sheet))
                self.refused(sheet, most - 1, None, most - 1)

    def test_told_just_where_the_best_order_is(self):
        for program in strewn(150, 60):
            sheet = spread(program)
            if plain_kinds(sheet)[1] > 300:
                continue
            most = plain_tables_most(sheet)
            with self.subTest(program=program):
                expected = plain_shares(sheet)
                if expected is None:
                    self.assertRaises(CannotBe, by_tables, sheet, None, most)
                else:
                    self.assertEqual(by_tables(sheet, None, most), expected)
                if most > 1:
                    self.refused(sheet, most - 1, None, most - 1)


class Most(TablesCase):
    def test_by_kinds(self):
        text = even("a", 3) + even("b", 4)
        for row in ("let c = a + b\n", "seen a + b\n"):
            sheet = read(text + row + "tell a")
            self.assertEqual(by_tables(sheet, None, 12), plain_shares(sheet))
            self.refused(sheet, 11, None, 11)
            self.refused(sheet, 11, [name for name in names_given(sheet) if name != "a"], 11)

    def test_by_kinds_of_a_row_that_no_tell_needs(self):
        sheet = read(even("a", 3) + even("b", 4) + "let c = 1\nlet d = a + b\ntell c")
        self.assertEqual(by_tables(sheet, None, 12), [((1,), (1, 1))])
        self.refused(sheet, 11, None, 11)

    def test_by_a_join(self):
        # no row has choices, but what is told has twelve rows
        sheet = read(even("a", 3) + even("b", 4) + "tell b, a")
        self.assertEqual(len(by_tables(sheet, [], 12)), 12)
        self.assertEqual(kinds(sheet, 1), {"a": [0, 1, 2], "b": [0, 1, 2, 3]})
        self.refused(sheet, 11, [], 11)
        self.refused(sheet, 11, None, 11)

    def test_ahead_of_what_cannot_be(self):
        sheet = read(even("a", 3) + even("b", 4) + "seen 0\ntell a, b")
        self.refused(sheet, 11, None, 11)
        self.assertRaises(CannotBe, by_tables, sheet, None, 12)

    def test_the_built_in_most(self):
        text = even("a", 5) + even("b", 5) + even("c", 5)
        self.assertEqual(len(by_tables(read(text + even("d", 4) + "tell a, b, c, d"))), 500)
        sheet = read(text + even("d", 5) + "tell a, b, c, d")
        self.refused(sheet, 500)
        self.refused(sheet, 500, [])
        self.refused(sheet, 500, None)
        self.assertEqual(len(by_tables(sheet, [], 625)), 625)
        # a join of 501 rows: the sum has the kinds 0 to 166
        text = even("x", 6) + drawn("y", *range(0, 36, 6)) + drawn("w", 0, 36, 72, 108) + drawn("c", 0, 23)
        text += "let s1 = x + y\nlet s2 = s1 + w\nlet s3 = s2 + c\n" + even("z", 3) + "tell s3, z"
        self.refused(read(text), 500)
        self.assertEqual(len(by_tables(read(text), None, 501)), 501)

    def test_one_row(self):
        self.assertEqual(by_tables(read("let a = 1\nlet b = a\nseen b\ntell b"), None, 1), [((1,), (1, 1))])


class LittleTime(TablesCase):
    def test_a_long_chain(self):
        # a coin that is perhaps turned, again and again
        rows = [even("x0", 2)]
        for number in range(1, 60):
            last = f"x{number - 1}"
            rows.append(even(f"e{number}", 2) + f"let x{number} = pick(e{number}, not {last}, {last})\n")
        sheet = read("".join(rows) + "tell x59")
        self.assertEqual(by_tables(sheet, None, 16), [((0,), (1, 2)), ((1,), (1, 2))])
        sheet = read("".join(rows) + "seen x30\nseen x59 = x0\ntell x0, x30")
        self.assertEqual(by_tables(sheet, None, 32), [((0, 1), (1, 2)), ((1, 1), (1, 2))])

    def test_a_chain_of_four_hundred_rows(self):
        rows = [even("v0", 2)] + [f"let v{number} = not v{number - 1}\n" for number in range(1, 400)]
        sheet = read("".join(rows) + "tell v399, v0")
        self.assertEqual(by_tables(sheet, None, 4), [((0, 1), (1, 2)), ((1, 0), (1, 2))])

    def test_a_star(self):
        rows = [even("h", 2)]
        for number in range(59):
            rows.append(drawn(f"e{number}", 0, 1, 2) + f"let a{number} = h + e{number}\nseen a{number}\n")
        sheet = read("".join(rows) + "tell h")
        # where h is 0, each of the others holds in two of three ways
        self.assertEqual(
            by_tables(sheet, None, 6), [((0,), (2 ** 59, 2 ** 59 + 3 ** 59)), ((1,), (3 ** 59, 2 ** 59 + 3 ** 59))])


class NothingShared(unittest.TestCase):
    def test_what_was_told_is_new_and_stays(self):
        sheet = read(even("a", 2) + "let b = a\ntell b, a")
        kept = copy.deepcopy(sheet)
        order = []
        found = by_tables(sheet, order)
        expected = list(found)
        found.clear()
        self.assertEqual((sheet, order), (kept, []))
        found = by_tables(sheet)
        self.assertEqual(found, expected)
        sheet[1][0][2].clear()
        sheet[1].clear()
        sheet[2].clear()
        self.assertEqual(found, expected)


if __name__ == "__main__":
    unittest.main()
