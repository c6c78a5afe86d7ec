"""What hangs on what in sheets: draws behind values, groups, links, values that are free [33] [34] [35] [36] [2]."""

import copy
import itertools
import unittest
from fractions import Fraction

from fairdraw.hanging import behind, free, groups, link
from fairdraw.looking import look
from fairdraw.reading import read
from fairdraw.spreading import spread
from fairdraw.tables import told
from fairdraw.walking import states
from helper import coins, plain_behind, plain_groups, plain_ties, strewn, strewn_sheets


def values_of(sheet):
    return [row[1] for row in sheet[1] if row[0] != "seen"]


def all_sheets():
    """Strewn sheets, and sheets of strewn programs."""
    return strewn_sheets(250) + [spread(program) for program in strewn(120)]


class Behind(unittest.TestCase):
    def check(self, text, name, *draws):
        sheet = read(text)
        kept = copy.deepcopy(sheet)
        found = behind(sheet, name)
        self.assertEqual(found, list(draws))
        self.assertIs(found.__class__, list)
        self.assertEqual(sheet, kept)

    def test_a_draw_itself(self):
        self.check(coins("a", "b") + "seen a = b\ntell a", "a", "a")
        self.check(coins("a", "b") + "seen a = b\ntell a", "b", "b")

    def test_a_draw_of_one_outcome(self):
        self.check("draw a: 5 by 1/1\nlet b = a\ntell b", "b", "a")

    def test_lets_of_no_name(self):
        self.check("let a = 3\ntell a", "a")
        self.check(coins("b") + "let a = 3\nlet c = a + a\nseen a = b\ntell c", "c")

    def test_lets_of_one_draw(self):
        self.check(coins("a", "b") + "let c = not b\ntell c", "c", "b")
        # also where the value hangs on the draw by name alone
        self.check(coins("a", "b") + "let c = b - b\nlet d = pick(1, 2, a)\ntell c", "c", "b")
        self.check(coins("a", "b") + "let c = b - b\nlet d = pick(1, 2, a)\ntell c", "d", "a")

    def test_lets_of_several_draws(self):
        self.check(coins("c", "a", "d", "b") + "let e = pick(c, 0, b) + a\ntell e", "e", "a", "b", "c")

    def test_lets_behind_lets(self):
        text = coins("a", "b", "c") + "let d = b\nlet e = d + 1\nlet f = pick(e, c, 2)\nlet g = 1\nlet h = g + f\n"
        self.check(text + "tell h", "e", "b")
        self.check(text + "tell h", "h", "b", "c")
        self.check(text + "tell a", "g")

    def test_one_draw_by_two_ways(self):
        text = coins("a", "b") + "let c = a + a\nlet d = a\nlet e = c + d + a\nlet f = e + b + c\ntell a"
        self.check(text, "c", "a")
        self.check(text, "e", "a")
        self.check(text, "f", "a", "b")

    def test_sorted_as_texts(self):
        text = coins("v2", "v10", "v1", "a9") + "let x = v2 + v1 + v10 + a9\ntell x"
        self.check(text, "x", "a9", "v1", "v10", "v2")

    def test_what_was_seen_brings_nothing(self):
        self.check(coins("a", "b", "c") + "seen a + b + c\nlet d = a\ntell d", "d", "a")

    def test_names_that_no_row_tells(self):
        self.check(coins("a", "b") + "let c = b\ntell a", "c", "b")

    def test_strewn(self):
        for sheet in all_sheets():
            kept = copy.deepcopy(sheet)
            for name in values_of(sheet):
                with self.subTest(sheet=sheet, name=name):
                    self.assertEqual(behind(sheet, name), sorted(plain_behind(sheet, [name])))
            self.assertEqual(sheet, kept)


class Groups(unittest.TestCase):
    def check(self, text, *expected):
        sheet = read(text)
        kept = copy.deepcopy(sheet)
        self.assertEqual(groups(sheet), list(expected))
        self.assertEqual(sheet, kept)

    def test_without_seen_rows(self):
        self.check(coins("b", "a", "c") + "let d = a + b\ntell d", ["a"], ["b"], ["c"])

    def test_one_seen_row(self):
        self.check(coins("c", "b", "a") + "seen a = c\ntell b", ["a", "c"], ["b"])
        self.check(coins("a", "b", "c") + "seen a + b + c\ntell b", ["a", "b", "c"])
        self.check(coins("a", "b", "c") + "seen b\ntell b", ["a"], ["b"], ["c"])

    def test_several_seen_rows(self):
        text = coins("a", "b", "c", "d", "e")
        self.check(text + "seen a = d\nseen d = b\ntell c", ["a", "b", "d"], ["c"], ["e"])
        self.check(text + "seen a = d\nseen c = b\ntell c", ["a", "d"], ["b", "c"], ["e"])
        # a later seen row makes one of two groups
        self.check(text + "seen a = d\nseen c = b\nseen b = d\ntell c", ["a", "b", "c", "d"], ["e"])
        self.check(text + "seen a = b\nseen b = c\nseen c = d\nseen d = e\ntell c", ["a", "b", "c", "d", "e"])
        self.check(text + "seen a = b\nseen a = b\nseen a\ntell c", ["a", "b"], ["c"], ["d"], ["e"])

    def test_seen_rows_that_read_lets(self):
        text = coins("a", "b", "c", "d") + "let e = a\nlet f = e + c\nlet g = 4\n"
        self.check(text + "seen f\ntell g", ["a", "c"], ["b"], ["d"])
        self.check(text + "seen e = d\nseen g\ntell g", ["a", "d"], ["b"], ["c"])
        # a let alone ties nothing
        self.check(text + "seen e\ntell f", ["a"], ["b"], ["c"], ["d"])

    def test_seen_rows_without_a_draw(self):
        self.check("seen 1\n" + coins("b", "a") + "let c = 3\nseen c\nseen 0\ntell c", ["a"], ["b"])

    def test_without_draws(self):
        self.check("let a = 3\ntell a")
        self.check("let a = 3\nseen a\nseen 0\ntell a")

    def test_sorted_as_texts(self):
        text = coins("v2", "v10", "v1", "v3")
        self.check(text + "tell v1", ["v1"], ["v10"], ["v2"], ["v3"])
        self.check(text + "seen v2 = v10\ntell v1", ["v1"], ["v10", "v2"], ["v3"])
        self.check(text + "seen v3 = v1\ntell v1", ["v1", "v3"], ["v10"], ["v2"])

    def test_what_cannot_be_ties_too(self):
        self.check(coins("a", "b", "c") + "seen a and b and 0\ntell c", ["a", "b"], ["c"])

    def test_strewn(self):
        many = 0
        for sheet in all_sheets():
            kept = copy.deepcopy(sheet)
            with self.subTest(sheet=sheet):
                found = groups(sheet)
                self.assertEqual(found, plain_groups(sheet))
                self.assertEqual(sorted(sum(found, [])), sorted(row[1] for row in sheet[1] if row[0] == "draw"))
                self.assertEqual(sheet, kept)
                many += any(len(group) > 2 for group in found)
        self.assertGreater(many, 10)


class LinkCase(unittest.TestCase):
    def check_list(self, sheet, one, other, draws):
        """Whether a list links two values."""
        self.assertIs(draws.__class__, list)
        self.assertEqual(len(draws), len(set(draws)))
        self.assertIn(draws[0], plain_behind(sheet, [one]))
        self.assertIn(draws[-1], plain_behind(sheet, [other]))
        for first, second in zip(draws, draws[1:]):
            self.assertTrue(any(first in tie and second in tie for tie in plain_ties(sheet)), draws)

    def linked(self, text, one, other):
        """The list that links two values, whichever comes first."""
        sheet = read(text)
        kept = copy.deepcopy(sheet)
        found = link(sheet, one, other)
        self.check_list(sheet, one, other, found)
        self.check_list(sheet, other, one, link(sheet, other, one))
        self.assertIs(free(sheet, one, other), False)
        self.assertIs(free(sheet, other, one), False)
        self.assertEqual(sheet, kept)
        return found

    def not_linked(self, text, one, other):
        sheet = read(text)
        kept = copy.deepcopy(sheet)
        for pair in ((one, other), (other, one)):
            self.assertIsNone(link(sheet, *pair))
            self.assertIs(free(sheet, *pair), True)
        self.assertEqual(sheet, kept)


class Links(LinkCase):
    def test_one_name_twice(self):
        text = coins("a", "b") + "let c = a + b\nlet d = b\ntell a"
        self.assertEqual(self.linked(text, "a", "a"), ["a"])
        self.assertEqual(self.linked(text, "d", "d"), ["b"])
        self.linked(text, "c", "c")

    def test_a_draw_behind_both(self):
        text = coins("a", "b", "c") + "let d = a + b\nlet e = b + c\nlet f = d\ntell a"
        self.assertEqual(self.linked(text, "d", "e"), ["b"])
        self.assertEqual(self.linked(text, "b", "e"), ["b"])
        self.assertEqual(self.linked(text, "f", "e"), ["b"])
        self.linked(text, "f", "d")
        self.not_linked(text, "a", "e")

    def test_two_draws_tied(self):
        text = coins("a", "b", "c") + "seen a + b\ntell c"
        self.assertEqual(self.linked(text, "a", "b"), ["a", "b"])
        self.not_linked(text, "a", "c")
        self.not_linked(text, "c", "b")

    def test_a_chain(self):
        names = ["a", "e", "c", "b", "d"]
        text = coins("a", "b", "c", "d", "e", "f")
        text += "".join(f"seen {one} = {other}\n" for one, other in zip(names, names[1:]))
        text += "let x = a\nlet y = d + f\ntell x"
        # there is no other list than this one
        self.assertEqual(self.linked(text, "a", "d"), names)
        self.assertEqual(self.linked(text, "x", "y"), names)
        self.assertEqual(self.linked(text, "y", "x"), names[::-1])
        self.not_linked(text, "x", "f")
        self.linked(text, "y", "f")

    def test_a_chain_over_rows_that_tie_several(self):
        text = coins("a", "b", "c", "d", "e", "f", "g")
        text += "seen a + b + c\nseen c + d + e\nseen e + f\ntell g"
        self.linked(text, "a", "f")
        self.linked(text, "b", "d")
        self.not_linked(text, "g", "f")

    def test_a_ring(self):
        names = ["a", "b", "c", "d", "e"]
        text = coins(*names) + "".join(f"seen {one} = {other}\n" for one, other in zip(names, names[1:] + names))
        for one, other in itertools.product(names, repeat=2):
            self.linked(text + "tell a", one, other)

    def test_none(self):
        text = coins("a", "b", "c", "d") + "let e = a + b\nlet f = c + d\nseen e\nseen f\ntell e"
        self.not_linked(text, "e", "f")
        self.not_linked(text, "a", "d")
        self.not_linked(coins("a", "b") + "seen a\nseen b\ntell a", "a", "b")
        # several names in one let are not tied by it
        self.not_linked(coins("a", "b") + "let c = a + b\ntell c", "a", "b")

    def test_ties_by_rows_that_read_lets(self):
        text = coins("a", "b", "c") + "let d = a\nlet e = b\nlet f = d + e\nseen f\ntell c"
        self.assertEqual(self.linked(text, "a", "b"), ["a", "b"])
        self.not_linked(text, "f", "c")

    def test_values_without_a_draw(self):
        text = coins("a", "b") + "let c = 3\nlet d = c + 1\nlet e = a + c\nseen a = c\nseen c\ntell c"
        for one in ("c", "d"):
            for other in ("a", "b", "c", "d", "e"):
                self.not_linked(text, one, other)
        self.not_linked("let a = 1\ntell a", "a", "a")

    def test_free_is_told_by_rows_and_not_by_numbers(self):
        # free in the shares, but linked
        self.linked(coins("a", "b") + "seen a = a + b - b\ntell a", "a", "b")
        self.linked("draw a: 3 by 1/1\nlet b = a\ntell a", "a", "b")

    def test_strewn(self):
        counts = [0, 0, 0]
        for sheet in all_sheets():
            group_of = {draw: place for place, group in enumerate(plain_groups(sheet)) for draw in group}
            near = {name: {group_of[draw] for draw in plain_behind(sheet, [name])} for name in values_of(sheet)}
            kept = copy.deepcopy(sheet)
            for one, other in itertools.product(values_of(sheet)[:9], repeat=2):
                with self.subTest(sheet=sheet, one=one, other=other):
                    found = link(sheet, one, other)
                    self.assertIs(free(sheet, one, other), found is None)
                    self.assertEqual(found is None, not near[one] & near[other])
                    if found is not None:
                        self.check_list(sheet, one, other, found)
                    counts[0 if found is None else min(len(found), 2)] += 1
            self.assertEqual(sheet, kept)
        self.assertGreater(min(counts), 100)


def shares(table, names):
    return {numbers: Fraction(*share) for numbers, share in told(table, names)}


def products(parts):
    """The shares of all values together if they are free of each other."""
    found = {(): Fraction(1)}
    for part in parts:
        found = {
            numbers + more: share * other for numbers, share in found.items() for more, other in part.items()
        }
    return found


class FreeInTheShares(unittest.TestCase):
    def check(self, table, names):
        together = shares(table, names)
        self.assertEqual(together, products([shares(table, [name]) for name in names]))

    def test_by_hand(self):
        text = coins("a", "b", "c", "d", "e") + "let x = a + b\nlet y = c + d\nseen x\nseen c < d or e\nlet z = 4\n"
        sheet = read(text + "tell x")
        for some in ("xyz", "zae"):
            for one, other in itertools.combinations(some, 2):
                self.assertIs(free(sheet, one, other), True)
            self.check(states(sheet), list(some))

    def test_strewn(self):
        counts = {2: 0, 3: 0, 4: 0}
        for sheet in strewn_sheets(300):
            table = states(sheet, 10 ** 6)
            if not table[1]:
                continue
            look(sheet)
            names = values_of(sheet)
            free_pairs = {pair for pair in itertools.combinations(names, 2) if free(sheet, *pair)}
            for many in counts:
                for some in itertools.islice(itertools.combinations(names, many), 60):
                    if all(pair in free_pairs for pair in itertools.combinations(some, 2)):
                        with self.subTest(sheet=sheet, some=some):
                            self.check(table, list(some))
                        counts[many] += 1
        self.assertGreater(min(counts.values()), 50)


class LittleTime(unittest.TestCase):
    def test_sixty_draws_in_a_chain(self):
        names = [f"v{number}" for number in range(60)]
        text = coins(*names) + "".join(f"seen {one} = {other}\n" for one, other in zip(names, names[1:]))
        sheet = read(text + "tell v0")
        self.assertEqual(groups(sheet), [sorted(names)])
        self.assertEqual(link(sheet, "v0", "v59"), names)
        self.assertIs(free(sheet, "v59", "v0"), False)

    def test_sixty_draws_behind_each_of_many_rows(self):
        names = [f"v{number}" for number in range(60)]
        text = coins(*names) + "".join(f"let a{number} = v{number} + v{59 - number}\n" for number in range(30))
        text += "let b = " + " + ".join(f"a{number}" for number in range(20)) + "\n"
        text += "let c0 = b + " + " + ".join(f"a{number}" for number in range(19, 30)) + "\n"
        text += "".join(f"let c{number + 1} = c{number} + c{number} - c0\n" for number in range(120))
        text += "seen c120 = c60\n" * 180
        sheet = read(text + "tell v0")
        self.assertEqual(len(sheet[1]), 392)
        self.assertEqual(behind(sheet, "c120"), sorted(names))
        self.assertEqual(groups(sheet), [sorted(names)])
        self.assertEqual(link(sheet, "v7", "v8"), ["v7", "v8"])

    def test_sixty_draws_each_alone(self):
        names = [f"v{number}" for number in range(60)]
        sheet = read(coins(*names) + "".join(f"seen {name}\n" for name in names) + "tell v0")
        self.assertEqual(groups(sheet), [[name] for name in sorted(names)])
        self.assertIsNone(link(sheet, "v0", "v59"))


class NothingShared(unittest.TestCase):
    def test_what_was_told_is_new_and_stays(self):
        sheet = read(coins("a", "b", "c") + "let d = a + b\nseen d\nseen b = c\ntell d")
        kept = copy.deepcopy(sheet)
        asks = [
            lambda: behind(sheet, "d"), lambda: behind(sheet, "a"), lambda: groups(sheet), lambda: groups(sheet)[0],
            lambda: link(sheet, "a", "c"), lambda: link(sheet, "a", "a"),
        ]
        expected = [["a", "b"], ["a"], [["a", "b", "c"]], ["a", "b", "c"], ["a", "b", "c"], ["a"]]
        for ask, right in zip(asks, expected):
            ask().clear()
            self.assertEqual(ask(), right)
        self.assertEqual(sheet, kept)
        found = [ask() for ask in asks]
        sheet[1][0][2].clear()
        sheet[1].clear()
        sheet[2].clear()
        self.assertEqual(found, expected)


if __name__ == "__main__":
    unittest.main()
