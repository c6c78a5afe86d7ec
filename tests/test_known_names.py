"""Which names are known behind rows, and which are given in them [8] [2]."""

import copy
import unittest

from fairdraw.looking import known, names_given
from helper import strewn

ONE = ("num", 1)
COIN = [(0, (1, 2)), (1, (1, 2))]


def let(name):
    return ("let", name, ONE)


def draw(name):
    return ("draw", name, list(COIN))


def call(name):
    return ("call", name, "f", [])


def choice(first, second):
    return ("if", ONE, first, second)


def slow_known(rows, before):
    """By the document's words, each time of rounds gone through."""
    names = set(before)
    for row in rows:
        if row[0] in ("draw", "let", "call"):
            names = names | {row[1]}
        if row[0] == "if":
            names = slow_known(row[2], names) & slow_known(row[3], names)
        if row[0] == "rounds":
            for time in range(row[1]):
                names = slow_known(row[2], names)
    return names


def slow_given(rows):
    """The names given anywhere, by a search for rows that give."""
    found = set()
    for row in rows:
        if row[0] in ("draw", "let", "call"):
            found.add(row[1])
        for thing in row:
            if isinstance(thing, list) and thing and isinstance(thing[0][0], str) and row[0] in ("if", "rounds"):
                found |= slow_given(thing)
    return found


class KnownCase(unittest.TestCase):
    def check(self, rows, before, behind, given=None):
        kept = copy.deepcopy((rows, before))
        self.assertEqual(known(rows, before), behind)
        self.assertEqual((rows, before), kept)
        if given is not None:
            self.assertEqual(names_given(rows), given)
            self.assertEqual((rows, before), kept)


class Known(KnownCase):
    def test_rows_that_give(self):
        for give in (let, draw, call):
            self.check([give("x")], [], ["x"], ["x"])
            self.check([give("x")], ["a", "y"], ["a", "x", "y"], ["x"])
            self.check([give("x")], ["x"], ["x"], ["x"])
            self.check([give("x"), give("x")], [], ["x"], ["x"])

    def test_rows_that_give_nothing(self):
        self.check([], [], [], [])
        self.check([], ["b", "a"], ["a", "b"], [])
        self.check([("seen", ("name", "a"))], ["b", "a"], ["a", "b"], [])

    def test_a_call_gives_neither_the_part_nor_what_it_reads(self):
        rows = [("call", "x", "f", [("name", "a"), ("name", "b")])]
        self.check(rows, ["a", "b"], ["a", "b", "x"], ["x"])
        self.check(rows, [], ["x"], ["x"])

    def test_given_in_one_branch_alone(self):
        for give in (let, draw, call):
            self.check([choice([give("x")], [])], [], [], ["x"])
            self.check([choice([], [give("x")])], [], [], ["x"])
            self.check([choice([give("x")], [give("y")])], ["a"], ["a"], ["x", "y"])

    def test_given_in_both_branches(self):
        for give in (let, draw, call):
            self.check([choice([give("x")], [let("x")])], [], ["x"], ["x"])
            self.check([choice([let("y"), give("x")], [give("x"), let("z")])], [], ["x"], ["x", "y", "z"])

    def test_known_ahead_of_a_choice(self):
        self.check([choice([let("x")], [])], ["x"], ["x"], ["x"])
        self.check([choice([], [let("x")])], ["x", "a"], ["a", "x"], ["x"])
        self.check([let("x"), choice([let("x")], [])], [], ["x"], ["x"])
        self.check([choice([], [])], ["q"], ["q"], [])

    def test_forgotten_and_given_again(self):
        self.check([choice([let("x")], []), let("x")], [], ["x"], ["x"])
        self.check([choice([let("x")], []), let("y")], [], ["y"], ["x", "y"])

    def test_rounds(self):
        for times in (1, 2, 400):
            self.check([("rounds", times, [draw("x"), call("b")])], ["c"], ["b", "c", "x"], ["b", "x"])
            self.check([("rounds", times, [choice([let("x")], [])])], [], [], ["x"])
            self.check([("rounds", times, [])], ["c"], ["c"], [])

    def test_rounds_of_0_times(self):
        self.check([("rounds", 0, [draw("x"), let("y"), call("z")])], [], [], ["x", "y", "z"])
        self.check([("rounds", 0, [draw("x")])], ["x", "b", "a"], ["a", "b", "x"], ["x"])
        self.check([("rounds", 0, [("rounds", 1, [let("x")])])], [], [], ["x"])
        self.check([("rounds", 1, [("rounds", 0, [let("x")])])], [], [], ["x"])
        self.check([("rounds", 400, [("rounds", 0, [let("x")]), let("y")])], [], ["y"], ["x", "y"])

    def test_choices_and_rounds_within_one_another(self):
        inner = choice([let("x"), let("y")], [("rounds", 1, [draw("x")])])
        self.check([inner], [], ["x"], ["x", "y"])
        self.check([choice([inner], [call("x")])], [], ["x"], ["x", "y"])
        self.check([choice([inner], [let("y")])], [], [], ["x", "y"])
        self.check([choice([inner, let("y")], [inner, draw("y")])], [], ["x", "y"], ["x", "y"])
        self.check([choice([inner], [("rounds", 0, [let("x")])])], [], [], ["x", "y"])
        self.check([("rounds", 3, [choice([inner], [inner])])], [], ["x"], ["x", "y"])
        self.check([choice([let("x")], [choice([let("x")], [let("x"), let("z")])])], [], ["x"], ["x", "z"])

    def test_many_rounds_within_one_another(self):
        rows = [let("x"), choice([let("y")], [])]
        for time in range(5):
            rows = [("rounds", 400, rows), let("z")]
        self.check(rows, ["a"], ["a", "x", "z"], ["x", "y", "z"])

    def test_sorted_as_texts(self):
        names = ["b", "ab", "a1", "a", "aa", "zz", "z9", "a10", "a2", "abcdefgh"]
        expected = ["a", "a1", "a10", "a2", "aa", "ab", "abcdefgh", "b", "z9", "zz"]
        self.check([], names, expected)
        self.check([let(name) for name in names], [], expected, expected)
        self.check([let(name) for name in names[:5]], names[5:], expected)

    def test_beginnings_of_one_another(self):
        self.check([choice([let("a"), let("abc")], [let("ab"), let("abc")])], [], ["abc"], ["a", "ab", "abc"])
        self.check([choice([let("ab")], [let("a")])], [], [], ["a", "ab"])
        self.check([let("a")], ["ab"], ["a", "ab"], ["a"])

    def test_what_is_told_is_new(self):
        before = ["a", "b"]
        rows = [let("c")]
        for told in (known([], before), known(rows, before), names_given(rows)):
            told.append("q")
        self.assertEqual(before, ["a", "b"])
        self.assertEqual(known([], before), ["a", "b"])
        self.assertEqual(known(rows, before), ["a", "b", "c"])
        self.assertEqual(names_given(rows), ["c"])

    def test_strewn_rows(self):
        for place, program in enumerate(strewn(300)):
            rows = program[1]
            before = [[], ["b", "a"], ["x", "keep", "q"]][place % 3]
            with self.subTest(rows=rows, before=before):
                self.check(rows, before, sorted(slow_known(rows, before)), sorted(slow_given(rows)))


if __name__ == "__main__":
    unittest.main()
