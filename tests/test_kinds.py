"""The kinds of a sheet's values, and a table for each of its rows [25] [26] [2]."""

import copy
import unittest

from fairdraw.errors import TooMany
from fairdraw.kinds import kinds, tables_of
from fairdraw.reading import read
from fairdraw.spreading import spread
from helper import drawn, plain_kinds, plain_table, strewn

GREAT = 10 ** 60 - 1
ONE = (1, 1)


def sheet_of(text):
    """A sheet of these rows, and one more so that there is something to tell."""
    return read(text + "\nlet zzz = 0\ntell zzz")


class KindCase(unittest.TestCase):
    def check(self, text, expected):
        """The kinds of the rows of a text, but for the row that is put to its end."""
        sheet = sheet_of(text)
        kept = copy.deepcopy(sheet)
        found = kinds(sheet)
        self.assertEqual(found.pop("zzz"), [0])
        self.assertEqual(found, expected)
        self.assertIs(found.__class__, dict)
        self.assertTrue(all(some.__class__ is list for some in found.values()))
        self.assertEqual(sheet, kept)

    def check_tables(self, text, *expected):
        sheet = sheet_of(text)
        kept = copy.deepcopy(sheet)
        found = tables_of(sheet)
        self.assertEqual(found.pop(), (("zzz",), [((0,), ONE)]))
        self.assertEqual(found, list(expected))
        self.assertIs(found.__class__, list)
        for table in found:
            self.assertEqual([table.__class__, table[0].__class__, table[1].__class__], [tuple, tuple, list])
        self.assertEqual(sheet, kept)

    def refused(self, sheet, most, *told_most):
        for ask in (kinds, tables_of):
            kept = copy.deepcopy(sheet)
            with self.assertRaises(TooMany) as caught:
                ask(sheet, *told_most)
            self.assertEqual(caught.exception.most, most)
            self.assertEqual(sheet, kept)

    def check_most(self, text, most):
        """Told with just so many choices, refused with one less."""
        sheet = sheet_of(text)
        found, many = plain_kinds(sheet)
        self.assertEqual(many, most)
        self.assertEqual(kinds(sheet, most), found)
        self.assertEqual(tables_of(sheet, most), [plain_table(row, found) for row in sheet[1]])
        self.refused(sheet, most - 1, most - 1)


class Kinds(KindCase):
    def test_no_rows(self):
        self.check("", {})
        self.assertEqual(kinds(([], [], [])), {})

    def test_draws(self):
        self.check(drawn("a", 3, -1, 10, 2), {"a": [-1, 2, 3, 10]})
        self.check(drawn("a", 4), {"a": [4]})
        self.check(drawn("b", 1, 0) + drawn("a", -5, -40), {"a": [-40, -5], "b": [0, 1]})
        self.check(drawn("a", GREAT, 0, -GREAT, GREAT - 1), {"a": [-GREAT, 0, GREAT - 1, GREAT]})

    def test_let_of_no_name(self):
        self.check("let a = 3", {"a": [3]})
        self.check("let a = 3 - 5", {"a": [-2]})
        self.check(f"let a = {GREAT} + {GREAT}", {"a": [2 * GREAT]})

    def test_let_of_one_name(self):
        self.check(drawn("a", 2, -1, 0) + "let b = a", {"a": [-1, 0, 2], "b": [-1, 0, 2]})
        self.check(drawn("a", 2, -1, 0) + "let b = 0 - a", {"a": [-1, 0, 2], "b": [-2, 0, 1]})
        self.check(drawn("a", 2, -1, 0) + "let b = not a", {"a": [-1, 0, 2], "b": [0, 1]})
        self.check(drawn("a", 2, -1) + "let b = not a", {"a": [-1, 2], "b": [0]})
        self.check(drawn("a", GREAT, -GREAT) + "let b = a + 1", {"a": [-GREAT, GREAT], "b": [1 - GREAT, GREAT + 1]})

    def test_let_of_several_names(self):
        self.check(drawn("a", 0, 1) + drawn("b", 0, 10) + "let c = a + b",
                   {"a": [0, 1], "b": [0, 10], "c": [0, 1, 10, 11]})
        self.check(drawn("a", 0, 1) + drawn("b", 0, 1) + "let c = a + b", {"a": [0, 1], "b": [0, 1], "c": [0, 1, 2]})
        self.check(drawn("a", 0, 1) + drawn("b", 5, 6) + drawn("c", 5, 9) + "let d = pick(a, b, c)",
                   {"a": [0, 1], "b": [5, 6], "c": [5, 9], "d": [5, 6, 9]})

    def test_the_same_name_twice_stands_for_one_value(self):
        self.check(drawn("a", 0, 1, 5) + "let b = a - a", {"a": [0, 1, 5], "b": [0]})
        self.check(drawn("a", 0, 1, 5) + "let b = a + a", {"a": [0, 1, 5], "b": [0, 2, 10]})

    def test_each_name_by_itself(self):
        # b is always a, but its kinds are taken by themselves
        self.check(drawn("a", 0, 1) + "let b = a\nlet c = a - b", {"a": [0, 1], "b": [0, 1], "c": [-1, 0, 1]})

    def test_seen_rows_take_nothing_away(self):
        self.check(drawn("a", 0, 1, 2) + "seen a = 1\nlet b = a + 1", {"a": [0, 1, 2], "b": [1, 2, 3]})
        self.check("seen 0\n" + drawn("a", 0, 1), {"a": [0, 1]})

    def test_sorted_as_numbers(self):
        self.check(drawn("a", 10, 9, -10, -9) + "let b = a + a", {"a": [-10, -9, 9, 10], "b": [-20, -18, 18, 20]})

    def test_names_in_the_order_of_the_rows(self):
        self.assertEqual(list(kinds(sheet_of(drawn("b", 1) + "let c = b\nlet a = c"))), ["b", "c", "a", "zzz"])


class Tables(KindCase):
    def test_no_rows(self):
        self.assertEqual(tables_of(([], [], [])), [])

    def test_draws(self):
        self.check_tables("draw a: 2 by 1/3, -1 by 1/2, 0 by 1/6",
                          (("a",), [((-1,), (1, 2)), ((0,), (1, 6)), ((2,), (1, 3))]))
        self.check_tables("draw a: 2 by 1/1", (("a",), [((2,), ONE)]))

    def test_lets(self):
        self.check_tables("let a = 7", (("a",), [((7,), ONE)]))
        two = (("b",), [((0,), (1, 2)), ((3,), (1, 2))])
        self.check_tables(drawn("b", 3, 0) + "let c = not b", two, (("b", "c"), [((0, 1), ONE), ((3, 0), ONE)]))
        self.check_tables(drawn("b", 3, 0) + "let a = not b", two, (("a", "b"), [((0, 3), ONE), ((1, 0), ONE)]))
        self.check_tables(drawn("b", 3, 0) + "let a = b - b", two, (("a", "b"), [((0, 0), ONE), ((0, 3), ONE)]))

    def test_names_on_both_sides_of_its_own(self):
        draws = drawn("c", 0, 1) + drawn("a", 0, 5)
        tables = [(("c",), [((0,), (1, 2)), ((1,), (1, 2))]), (("a",), [((0,), (1, 2)), ((5,), (1, 2))])]
        rows = [((0, 0, 0), ONE), ((0, 1, 1), ONE), ((5, -5, 0), ONE), ((5, -4, 1), ONE)]
        self.check_tables(draws + "let b = c - a", *tables, (("a", "b", "c"), rows))

    def test_names_sorted_as_texts(self):
        draws = drawn("v2", 0, 1) + drawn("v10", 0, 5)
        rows = [((0, 0, 0), ONE), ((0, 1, 1), ONE), ((5, 5, 0), ONE), ((5, 6, 1), ONE)]
        found = tables_of(sheet_of(draws + "let v12 = v2 + v10"))
        self.assertEqual(found[2], (("v10", "v12", "v2"), rows))
        self.assertEqual(tables_of(sheet_of(draws + "seen v2 + v10 = 1"))[2], (("v10", "v2"), [((0, 1), ONE)]))

    def test_seens(self):
        two = (("b",), [((0,), (1, 2)), ((3,), (1, 2))])
        self.check_tables(drawn("b", 3, 0) + "seen b", two, (("b",), [((3,), ONE)]))
        self.check_tables(drawn("b", 3, 0) + "seen 0 - b", two, (("b",), [((3,), ONE)]))
        self.check_tables(drawn("b", 3, 0) + "seen b + 1", two, (("b",), [((0,), ONE), ((3,), ONE)]))
        self.check_tables(drawn("b", 3, 0) + "seen b = b", two, (("b",), [((0,), ONE), ((3,), ONE)]))

    def test_a_seen_that_never_holds(self):
        two = (("b",), [((0,), (1, 2)), ((3,), (1, 2))])
        self.check_tables(drawn("b", 3, 0) + "seen b = 1", two, (("b",), []))
        self.check_tables("seen 0", ((), []))

    def test_a_seen_without_names(self):
        self.check_tables("seen 1", ((), [((), ONE)]))
        self.check_tables("seen 2 < 1", ((), []))

    def test_in_the_order_of_the_rows(self):
        self.check_tables(
            "seen 1\nlet b = 4\n" + drawn("a", 0, 1) + "seen a\nseen a\nlet c = b",
            ((), [((), ONE)]), (("b",), [((4,), ONE)]), (("a",), [((0,), (1, 2)), ((1,), (1, 2))]),
            (("a",), [((1,), ONE)]), (("a",), [((1,), ONE)]), (("b", "c"), [((4, 4), ONE)]),
        )

    def test_great_numbers(self):
        self.check_tables(
            drawn("a", GREAT, -GREAT) + "let b = a + a", (("a",), [((-GREAT,), (1, 2)), ((GREAT,), (1, 2))]),
            (("a", "b"), [((-GREAT, -2 * GREAT), ONE), ((GREAT, 2 * GREAT), ONE)]),
        )

    def test_strewn(self):
        for program in strewn(300):
            sheet = spread(program)
            found, many = plain_kinds(sheet)
            if many > 2000:
                continue
            with self.subTest(program=program):
                kept = copy.deepcopy(sheet)
                self.assertEqual(kinds(sheet, many), found)
                self.assertEqual(tables_of(sheet, many), [plain_table(row, found) for row in sheet[1]])
                if many > 1:
                    self.refused(sheet, many - 1, many - 1)
                self.assertEqual(sheet, kept)


class Most(KindCase):
    three = drawn("a", 0, 1, 2) + drawn("b", 0, 1)

    def test_lets(self):
        self.check_most(self.three + "let c = a + b", 6)
        self.check_most(self.three + "let c = a", 3)
        self.check_most(self.three + "let c = a + a + a", 3)

    def test_seens(self):
        self.check_most(self.three + "seen a + b", 6)
        self.check_most(self.three + "seen a + b = 9", 6)
        self.check_most(self.three + "seen a or a", 3)

    def test_choices_and_not_values(self):
        # six choices, one value
        self.check_most(self.three + "let c = (a + b) - (a + b)", 6)
        self.check_most(self.three + "let c = a + b = 9\nlet d = c + a", 6)
        # c has one kind, so it counts for one, however it was made
        self.check_most(self.three + "let c = a < 0\nlet d = pick(c, a, b) + c", 6)

    def test_a_draw_has_no_choices(self):
        sheet = ([], [("draw", "a", [(number, (1, 6)) for number in range(6)])], ["a"])
        self.assertEqual(kinds(sheet, 1), {"a": [0, 1, 2, 3, 4, 5]})
        self.assertEqual(len(tables_of(sheet, 1)[0][1]), 6)

    def test_no_names_are_one_choice(self):
        sheet = sheet_of("let a = 3\nseen 1\nseen 0\nlet b = a")
        self.assertEqual(kinds(sheet, 1), {"a": [3], "b": [3], "zzz": [0]})
        self.assertEqual(len(tables_of(sheet, 1)), 5)

    def test_the_built_in_most(self):
        draws = drawn("a", *range(5)) + drawn("b", *range(5)) + drawn("c", *range(5)) + drawn("d", *range(4))
        for row in ("let e = a + b + c + d", "seen a or b or c or d"):
            sheet = sheet_of(draws + row)
            self.assertEqual(len(kinds(sheet)["a"]), 5)
            self.assertEqual(len(tables_of(sheet)), 6)
        # 501 is three times 167: the sum has the 167 kinds 0 to 166, the last draw has three
        draws = drawn("x", *range(6)) + drawn("y", *range(0, 36, 6)) + drawn("w", 0, 36, 72, 108) + drawn("c", 0, 23)
        draws += "let s1 = x + y\nlet s2 = s1 + w\nlet s3 = s2 + c\n" + drawn("z", 0, 1, 2)
        for row in ("seen s3 = z", "let t = s3 + z"):
            self.assertEqual(kinds(sheet_of(draws + row), 501)["s3"], list(range(167)))
            self.refused(sheet_of(draws + row), 500)
            self.check_most(draws + row, 501)

    def test_the_first_one_is_refused(self):
        # later rows may have numbers of choices past all reckoning
        text = "".join(drawn(f"x{number}", *range(6)) for number in range(40))
        together = " + ".join(f"x{number}" for number in range(20))
        self.refused(sheet_of(text + "let a = x0 + x1\nlet b = " + together), 30, 30)
        self.refused(sheet_of(text + "seen " + together), 500)
        self.refused(sheet_of(text + "let b = " + together), 10 ** 6, 10 ** 6)

    def test_a_seen_row_ahead_is_refused_too(self):
        self.check_most(self.three + "let c = a\nseen a + b\nlet d = a", 6)

    def test_many_choices(self):
        draws = "".join(drawn(f"x{number}", *range(6)) for number in range(5))
        sheet = sheet_of(draws + "let a = x0 + x1 + x2 + x3 + x4")
        self.assertEqual(kinds(sheet, 6 ** 5)["a"], list(range(26)))
        self.refused(sheet, 6 ** 5 - 1, 6 ** 5 - 1)


class NothingShared(unittest.TestCase):
    text = drawn("a", 1, 0) + "let b = a\nseen b\nlet c = 5"

    def test_what_was_told_is_new(self):
        sheet = sheet_of(self.text)
        kept = copy.deepcopy(sheet)
        expected = copy.deepcopy((kinds(sheet), tables_of(sheet)))
        found = kinds(sheet)
        for some in found.values():
            some.append(77)
        found.clear()
        tables = tables_of(sheet)
        for table in tables:
            table[1].clear()
        tables.clear()
        self.assertEqual(sheet, kept)
        self.assertEqual((kinds(sheet), tables_of(sheet)), expected)

    def test_no_two_names_share_a_list(self):
        found = kinds(sheet_of(self.text))
        found["a"].append(77)
        self.assertEqual(found["b"], [0, 1])
        tables = tables_of(sheet_of("seen 1\nseen 1"))
        tables[0][1].clear()
        self.assertEqual(tables[1], ((), [((), ONE)]))

    def test_what_was_told_stays(self):
        sheet = sheet_of(self.text)
        found = kinds(sheet)
        tables = tables_of(sheet)
        expected = copy.deepcopy((found, tables))
        sheet[1][0][2].clear()
        sheet[1].clear()
        self.assertEqual((found, tables), expected)


if __name__ == "__main__":
    unittest.main()
