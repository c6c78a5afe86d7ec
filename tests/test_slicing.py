"""Slices of sheets [37] [2]."""

import copy
import unittest

from fairdraw.asking import by_graph
from fairdraw.kinds import by_tables
from fairdraw.looking import look
from fairdraw.reading import read
from fairdraw.slicing import sliced
from fairdraw.spreading import is_sheet, spread
from fairdraw.walking import walked
from helper import answered, coins, plain_shares, plain_slice, strewn, strewn_sheets

MOST = 10 ** 6
CANNOT_BE = ("CannotBe",)


class Slices(unittest.TestCase):
    def check(self, text, expected):
        sheet = read(text)
        kept = copy.deepcopy(sheet)
        found = sliced(sheet)
        self.assertEqual(found, read(expected))
        self.assertEqual(sliced(found), found)
        self.assertIs(is_sheet(found), True)
        self.assertEqual(sheet, kept)

    def stays(self, text):
        self.check(text, text)

    def test_all_is_asked_for(self):
        self.stays("let a = 3\ntell a")
        self.stays(coins("a", "b") + "seen a\nlet c = a + b\ntell c")
        self.stays(coins("c", "a") + "let b = a\nseen b = c\ntell b, a")

    def test_rows_that_no_told_value_reads(self):
        self.check(coins("a", "b", "c") + "let d = a\nlet e = b\nlet f = d + e\ntell e",
                   coins("b") + "let e = b\ntell e")
        self.check("let a = 1\nlet b = 2\nlet c = a\ntell b", "let b = 2\ntell b")
        self.check(coins("a", "b") + "tell b", coins("b") + "tell b")

    def test_rows_of_names_that_a_kept_row_reads(self):
        text = coins("a", "b", "c") + "let d = a\nlet e = b - b\nlet f = pick(0, e, d)\nlet g = f\n"
        self.check(text + "tell f",
                   coins("a", "b") + "let d = a\nlet e = b - b\nlet f = pick(0, e, d)\ntell f")
        self.check(text + "tell c, e", coins("b", "c") + "let e = b - b\ntell c, e")

    def test_the_tells_as_they_are(self):
        text = coins("b", "a", "v10", "v2") + "let c = v2\n"
        self.check(text + "tell c, a, b", coins("b", "a", "v2") + "let c = v2\ntell c, a, b")
        self.check(text + "tell v2, v10", coins("v10", "v2") + "tell v2, v10")

    def test_seen_rows_of_another_group(self):
        text = coins("a", "b", "c", "d")
        self.check(text + "seen a = b\nseen c = d\ntell a", coins("a", "b") + "seen a = b\ntell a")
        self.check(text + "seen a = b\nseen c = d\ntell d", coins("c", "d") + "seen c = d\ntell d")
        self.check(text + "seen a = b\nseen c = d\nlet e = c + a\ntell e",
                   text + "seen a = b\nseen c = d\nlet e = c + a\ntell e")
        self.check(coins("a", "b") + "seen a\ntell b", coins("b") + "tell b")

    def test_seen_rows_of_a_told_group_that_read_no_told_value(self):
        text = coins("a", "b", "c", "d", "e") + "seen a = b\nseen b = c\nseen c < d\nseen e\n"
        self.check(text + "tell a", coins("a", "b", "c", "d") + "seen a = b\nseen b = c\nseen c < d\ntell a")
        # the chain's last row comes first
        text = coins("a", "b", "c", "d", "e") + "seen c < d\nseen e\nseen b = c\nseen a = b\n"
        self.check(text + "tell a", coins("a", "b", "c", "d") + "seen c < d\nseen b = c\nseen a = b\ntell a")
        # one behind the told value's row
        self.stays(coins("a", "b") + "let c = a\nseen a\nseen a = b\nseen b\ntell c")

    def test_what_a_kept_seen_row_reads(self):
        text = coins("a", "b", "c", "d") + "let e = 4\nlet f = b + e\nlet g = d\n"
        self.check(text + "seen f < a\nseen g\ntell a",
                   coins("a", "b") + "let e = 4\nlet f = b + e\nseen f < a\ntell a")
        # a draw that only a kept seen row reads brings its own seen rows
        self.check(text + "seen f < a\nseen b = d\ntell a",
                   coins("a", "b", "d") + "let e = 4\nlet f = b + e\nseen f < a\nseen b = d\ntell a")

    def test_seen_rows_without_a_draw(self):
        self.check("let a = 3\nseen a\nseen 1\nseen 0\ntell a", "let a = 3\ntell a")
        self.check(coins("b") + "let a = 3\nseen a\nseen b\nseen 0\ntell b, a",
                   coins("b") + "let a = 3\nseen b\ntell b, a")

    def test_told_values_without_a_draw(self):
        self.check(coins("b") + "let a = 3\nseen b\nseen a\ntell a", "let a = 3\ntell a")
        self.check(coins("b") + "let a = 3\nseen b = a\nlet c = a + a\ntell c", "let a = 3\nlet c = a + a\ntell c")

    def test_a_group_touched_by_one_told_value_of_several(self):
        self.check(coins("a", "b", "c", "d") + "let e = 1\nseen c = d\nseen a\ntell e, c",
                   coins("c", "d") + "let e = 1\nseen c = d\ntell e, c")

    def test_strewn(self):
        shorter = 0
        for sheet in strewn_sheets(300) + [spread(program) for program in strewn(150)]:
            kept = copy.deepcopy(sheet)
            with self.subTest(sheet=sheet):
                found = sliced(sheet)
                self.assertEqual(found, plain_slice(sheet))
                self.assertEqual(sliced(found), found)
                self.assertIs(is_sheet(found), True)
                look(found)
                self.assertEqual(sheet, kept)
                shorter += len(found[1]) < len(sheet[1])
        self.assertGreater(shorter, 150)


class TheSameTold(unittest.TestCase):
    def check(self, sheet):
        """What a sheet tells; its slice tells the same, unless the sheet cannot be."""
        expected = plain_shares(sheet) or CANNOT_BE
        found = sliced(sheet)
        for ask, more in ((walked, ()), (by_tables, (None,)), (by_graph, ())):
            of_slice = answered(ask, found, *more, MOST)
            self.assertEqual(answered(ask, sheet, *more, MOST), expected)
            if expected != CANNOT_BE:
                self.assertEqual(of_slice, expected)
            if of_slice == CANNOT_BE:
                self.assertEqual(expected, CANNOT_BE)
        return (expected == CANNOT_BE, of_slice == CANNOT_BE)

    def test_by_hand(self):
        text = coins("a", "b", "c") + "seen a + b\nlet d = a + 1\n"
        self.assertEqual(self.check(read(text + "seen c\ntell d")), (False, False))
        # what cannot be is not in the slice
        self.assertEqual(self.check(read(text + "seen c < c\ntell d")), (True, False))
        self.assertEqual(self.check(read(text + "seen 0\ntell d")), (True, False))
        # it is
        self.assertEqual(self.check(read(text + "seen b < b\nseen c\ntell d")), (True, True))

    def test_strewn(self):
        counts = {}
        for sheet in strewn_sheets(300) + [spread(program) for program in strewn(200)]:
            with self.subTest(sheet=sheet):
                both = self.check(sheet)
                counts[both] = counts.get(both, 0) + 1
        self.assertEqual(sorted(counts), [(False, False), (True, False), (True, True)])
        self.assertGreater(min(counts.values()), 20)


class LittleTime(unittest.TestCase):
    def test_sixty_draws(self):
        names = [f"v{number}" for number in range(60)]
        ties = [f"seen {one} = {other}\n" for one, other in zip(names, names[1:])]
        text = coins(*names) + "".join(reversed(ties)) + "let x0 = 1\n"
        text += "".join(f"let x{number + 1} = x{number} + x{number}\n" for number in range(250))
        sheet = read(text + "tell v0")
        self.assertEqual(sliced(sheet), ([], sheet[1][:119], ["v0"]))
        sheet = read(text + "tell x250")
        self.assertEqual(sliced(sheet), ([], sheet[1][119:], ["x250"]))


class NothingShared(unittest.TestCase):
    def test_what_was_told_is_new_and_stays(self):
        sheet = read(coins("a", "b", "c") + "let d = a + b\nseen d\ntell d, a")
        kept = copy.deepcopy(sheet)
        found = sliced(sheet)
        expected = copy.deepcopy(found)
        found[1][0][2].clear()
        found[0].append("x")
        found[1].clear()
        found[2].clear()
        self.assertEqual(sheet, kept)
        found = sliced(sheet)
        self.assertEqual(found, expected)
        sheet[1][0][2].clear()
        sheet[0].append("x")
        sheet[1].clear()
        sheet[2].clear()
        self.assertEqual(found, expected)


if __name__ == "__main__":
    unittest.main()
