"""The walk of programs and sheets [23] [24] [2]."""

import copy
import unittest
from fractions import Fraction

from fairdraw.errors import CannotBe, TooMany
from fairdraw.looking import known, look, ways
from fairdraw.reading import read
from fairdraw.spreading import spread
from fairdraw.walking import states, walked
from helper import even, plain_shares, plain_walked, strewn

GREAT = 10 ** 60 - 1


def pair(share):
    return (share.numerator, share.denominator)


class WalkCase(unittest.TestCase):
    def check(self, text, names, *rows):
        """The states of a text, without its tell row: names, and rows of values and a share."""
        program = read(text + "\nlet zzz = 0\ntell zzz")
        program[1].pop()
        kept = copy.deepcopy(program)
        found = states(program)
        self.assertEqual(found, (tuple(names), list(rows)))
        self.assertEqual(
            [found.__class__, found[0].__class__, found[1].__class__], [tuple, tuple, list],
        )
        self.assertEqual(program, kept)

    def tells(self, text, *rows):
        program = read(text)
        kept = copy.deepcopy(program)
        found = walked(program)
        self.assertEqual(found, list(rows))
        self.assertIs(found.__class__, list)
        self.assertEqual(program, kept)

    def refused(self, program, most, *told_most):
        for ask in (states, walked):
            kept = copy.deepcopy(program)
            with self.assertRaises(TooMany) as caught:
                ask(program, *told_most)
            self.assertEqual(caught.exception.most, most)
            self.assertEqual(program, kept)

    def check_most(self, text, most):
        """It is told with just so many states, and refused with one less."""
        program = read(text)
        look(program)
        expected = plain_walked(program)
        self.assertEqual(expected[1], most)
        self.assertEqual(states(program, most), expected[0])
        self.assertEqual(walked(program, most), plain_shares(program))
        if most > 1:
            self.refused(program, most - 1, most - 1)


class RowsAlone(WalkCase):
    def test_no_rows(self):
        self.check("", [], ((), (1, 1)))

    def test_draw(self):
        self.check("draw a: 1 by 1/3, 0 by 2/3", ["a"], ((0,), (2, 3)), ((1,), (1, 3)))
        self.check("draw a: 7 by 1/1", ["a"], ((7,), (1, 1)))
        self.check(
            f"draw a: {GREAT} by 1/6, -{GREAT} by 1/6, 10 by 1/6, 9 by 1/6, -10 by 1/6, -9 by 1/6", ["a"],
            ((-GREAT,), (1, 6)), ((-10,), (1, 6)), ((-9,), (1, 6)), ((9,), (1, 6)), ((10,), (1, 6)), ((GREAT,), (1, 6)),
        )

    def test_draws_are_free_of_each_other(self):
        self.check(
            "draw b: 0 by 1/3, 1 by 2/3\ndraw a: 5 by 1/4, 4 by 3/4", ["a", "b"],
            ((4, 0), (1, 4)), ((4, 1), (1, 2)), ((5, 0), (1, 12)), ((5, 1), (1, 6)),
        )

    def test_let(self):
        self.check("let a = 3", ["a"], ((3,), (1, 1)))
        self.check("let b = 3\nlet a = b - 4", ["a", "b"], ((-1, 3), (1, 1)))
        self.check("draw b: 0 by 1/3, 1 by 2/3\nlet a = not b", ["a", "b"], ((0, 1), (2, 3)), ((1, 0), (1, 3)))
        self.check("draw b: 0 by 1/3, 1 by 2/3\nlet c = b + b", ["b", "c"], ((0, 0), (1, 3)), ((1, 2), (2, 3)))

    def test_names_sorted_as_texts(self):
        self.check(
            "let b = 1\nlet v2 = 2\nlet v10 = 3\nlet a1 = 4\nlet a = 5\nlet ab = 6",
            ["a", "a1", "ab", "b", "v10", "v2"], ((5, 4, 6, 1, 3, 2), (1, 1)),
        )

    def test_seen(self):
        self.check("draw a: 0 by 1/3, 1 by 1/3, -1 by 1/3\nseen a", ["a"], ((-1,), (1, 3)), ((1,), (1, 3)))
        self.check("seen 1", [], ((), (1, 1)))
        self.check("seen 0", [])
        self.check(even("a", 3) + even("b", 3) + "seen a + b = 4", ["a", "b"], ((2, 2), (1, 9)))

    def test_if(self):
        self.check(
            "draw a: 0 by 1/3, 2 by 2/3\nif a\nlet b = 5\nelse\nlet b = 6\nend", ["a", "b"],
            ((0, 6), (1, 3)), ((2, 5), (2, 3)),
        )
        self.check("draw a: 0 by 1/3, -2 by 2/3\nif a\nlet a = 7\nend", ["a"], ((0,), (1, 3)), ((7,), (2, 3)))
        self.check("draw a: 0 by 1/3, 2 by 2/3\nif a\nelse\nlet a = 7\nend", ["a"], ((2,), (2, 3)), ((7,), (1, 3)))
        self.check("if 1\nend", [], ((), (1, 1)))
        self.check("if 0\nend", [], ((), (1, 1)))

    def test_rounds(self):
        self.check("let a = 1\nrounds 3\nlet a = a + a\nend", ["a"], ((8,), (1, 1)))
        self.check("rounds 2\nend", [], ((), (1, 1)))
        self.check("rounds 1\nlet a = 1\nend", ["a"], ((1,), (1, 1)))

    def test_call(self):
        self.check("part f()\ngive 4\ncall a = f()", ["a"], ((4,), (1, 1)))
        self.check("part f(x, y)\ngive x - y\nlet y = 9\ncall x = f(1, y)", ["x", "y"], ((-8, 9), (1, 1)))
        self.check("part f()\ndraw x: 1 by 1/4, 2 by 3/4\ngive x\ncall a = f()", ["a"], ((1,), (1, 4)), ((2,), (3, 4)))


class GivenAgain(WalkCase):
    def test_by_each_kind_of_row(self):
        part = "part f(a)\ndraw a: 6 by 1/2, 7 by 1/2\ngive a\n"
        draw = "draw a: 0 by 1/2, 1 by 1/2\n"
        self.check(draw + "let b = 4\nlet a = a + 5", ["a", "b"], ((5, 4), (1, 2)), ((6, 4), (1, 2)))
        self.check(draw + "let b = 4\ndraw a: 8 by 1/2, 9 by 1/2", ["a", "b"], ((8, 4), (1, 2)), ((9, 4), (1, 2)))
        self.check(part + draw + "let b = 4\ncall a = f(a)", ["a", "b"], ((6, 4), (1, 2)), ((7, 4), (1, 2)))

    def test_each_name_at_its_own_place(self):
        text = "let a = 1\nlet b = 2\nlet c = 3\n"
        self.check(text + "let a = a + 9", ["a", "b", "c"], ((10, 2, 3), (1, 1)))
        self.check(text + "let b = b + 9", ["a", "b", "c"], ((1, 11, 3), (1, 1)))
        self.check(text + "let c = c + 9", ["a", "b", "c"], ((1, 2, 12), (1, 1)))

    def test_names_in_another_order_in_the_branches(self):
        self.check(
            even("a", 2) + "if a\nlet c = 1\nlet b = 2\nlet d = 9\nelse\nlet b = 3\nlet c = 4\nend", ["a", "b", "c"],
            ((0, 3, 4), (1, 2)), ((1, 2, 1), (1, 2)),
        )


class AlikeBecomeOne(WalkCase):
    def test_behind_each_kind_of_row(self):
        two = even("a", 2)
        self.check(two + two, ["a"], ((0,), (1, 2)), ((1,), (1, 2)))
        self.check(two + "let a = 5", ["a"], ((5,), (1, 1)))
        self.check(even("a", 3) + "let a = a = 2", ["a"], ((0,), (2, 3)), ((1,), (1, 3)))
        self.check(two + "if a\nlet a = 3\nelse\nlet a = 3\nend", ["a"], ((3,), (1, 1)))
        self.check("part f(x)\ngive 2\n" + two + "call a = f(a)", ["a"], ((2,), (1, 1)))
        self.check("part f()\n" + even("x", 3) + "give x = 2\ncall a = f()", ["a"], ((0,), (2, 3)), ((1,), (1, 3)))
        self.check("let s = 0\nrounds 2\n" + even("a", 2) + "let s = s + a\nend\nlet a = 0", ["a", "s"],
                   ((0, 0), (1, 4)), ((0, 1), (1, 2)), ((0, 2), (1, 4)))

    def test_lists_of_few_states_where_there_are_many_ways(self):
        # each of these has more ways than states, and most is so that no list may have more
        three = even("a", 3)
        self.check_most(three * 5 + "tell a", 3)
        self.check_most(three + "if a\n" + three * 4 + "else\n" + three * 4 + "end\ntell a", 3)
        self.check_most(three + "rounds 3\n" + three * 2 + "let a = pick(a, 1, 0)\nend\ntell a", 3)
        self.check_most("part f(a)\n" + three * 4 + "give a\ncall a = f(1)\ncall a = f(a)\ntell a", 3)

    def test_strewn_lists(self):
        for program in strewn(400):
            with self.subTest(program=program):
                kept = copy.deepcopy(program)
                table, many = plain_walked(program)
                self.assertEqual(states(program, many), table)
                self.assertEqual(table[0], tuple(known(program[1], [])))
                if many > 1:
                    self.refused(program, many - 1, many - 1)
                self.assertEqual(program, kept)


class Forgotten(WalkCase):
    def test_behind_an_if(self):
        self.check(even("a", 2) + "if a\nlet x = 1\nend", ["a"], ((0,), (1, 2)), ((1,), (1, 2)))
        self.check(even("a", 2) + "if a\nelse\nlet x = 1\nend", ["a"], ((0,), (1, 2)), ((1,), (1, 2)))
        self.check(
            even("a", 2) + "if a\nlet x = 1\nlet y = 2\nelse\nlet y = 3\nlet z = 4\nend", ["a", "y"],
            ((0, 3), (1, 2)), ((1, 2), (1, 2)),
        )

    def test_states_unlike_in_forgotten_names_alone_become_one(self):
        self.check("if 1\n" + even("x", 6) + "end", [], ((), (1, 1)))
        self.check(
            "draw a: 0 by 1/3, 1 by 2/3\nif a\n" + even("x", 6) + "seen x\nelse\n" + even("y", 4) + "seen y\nend",
            ["a"], ((0,), (1, 4)), ((1,), (5, 9)),
        )
        self.check("draw a: 0 by 1/3, 1 by 2/3\nlet b = a\nif b\nlet a = 4\n" + even("x", 3) + "else\nlet a = 4\nend\n"
                   "let b = 0", ["a", "b"], ((4, 0), (1, 1)))

    def test_a_name_known_ahead_stays(self):
        self.check("let x = 5\nif 1\nlet x = 6\nend", ["x"], ((6,), (1, 1)))
        self.check("let x = 5\nif 0\nlet x = 6\nend", ["x"], ((5,), (1, 1)))

    def test_branches_into_which_no_state_goes(self):
        # what is known hangs on the rows, not on the states
        self.check("if 1\nlet x = 1\nlet y = 1\nelse\nlet y = 2\nend", ["y"], ((1,), (1, 1)))
        self.check("if 0\nlet x = 1\nlet y = 1\nelse\nlet y = 2\nlet z = 3\nend", ["y"], ((2,), (1, 1)))
        self.check("if 1\nlet x = 1\nend", [], ((), (1, 1)))
        self.check("if 0\nelse\nlet x = 1\nend", [], ((), (1, 1)))
        part = "part f(x)\nseen x\ngive x\n"
        self.check(part + "if 1\nlet q = 2\nelse\ncall q = f(0)\nend", ["q"], ((2,), (1, 1)))
        self.check(
            "if 1\nlet q = 2\nelse\nrounds 2\nif 1\nlet q = 1\nelse\n" + even("q", 2) + "end\nend\nseen q\nend", ["q"],
            ((2,), (1, 1)),
        )

    def test_behind_rounds_of_0_times(self):
        self.check("rounds 0\nlet x = 1\nend", [], ((), (1, 1)))
        self.check("let x = 1\nrounds 0\nlet x = 2\nlet y = 3\nseen 0\nend", ["x"], ((1,), (1, 1)))
        self.check("if 1\nrounds 0\nlet x = 1\nend\nelse\nlet x = 1\nend", [], ((), (1, 1)))

    def test_known_behind_rounds(self):
        self.check("rounds 2\nlet x = 1\nlet y = x + x\nend", ["x", "y"], ((1, 2), (1, 1)))
        # the second time knows x ahead, from the first
        self.check(
            "let a = 0\nrounds 2\nif a\nlet a = 2\nelse\nlet a = 1\nend\nlet x = a\nend", ["a", "x"], ((2, 2), (1, 1)),
        )
        self.check("rounds 3\nif 0\nlet x = 1\nend\nend", [], ((), (1, 1)))

    def test_behind_a_part(self):
        part = "part f(x)\nlet a = x + 1\n" + even("y", 2) + "let q = y\ngive a + q\n"
        self.check(part + "let a = 10\ncall b = f(a)", ["a", "b"], ((10, 11), (1, 2)), ((10, 12), (1, 2)))
        self.check(part + "call y = f(3)", ["y"], ((4,), (1, 2)), ((5,), (1, 2)))

    def test_no_state_left(self):
        self.check("seen 0\nlet a = 1\n" + even("b", 2), ["a", "b"])
        self.check("let a = 1\nlet b = 2\nseen a = b", ["a", "b"])
        self.check("seen 0\nif 1\nlet x = 1\nlet y = 1\nelse\nlet y = 1\nend", ["y"])
        self.check("part f(x)\ngive x\nseen 0\ncall q = f(1)", ["q"])
        self.check("part f(x)\nseen 0\ngive x\ncall q = f(1)\nlet r = q", ["q", "r"])
        self.check("seen 0\nrounds 3\nlet x = 1\nend\nrounds 0\nlet y = 1\nend", ["x"])


class Calls(WalkCase):
    part = "part f(x)\ndraw y: 0 by 1/4, 1 by 3/4\nseen x or y\ngive x + y\n"

    def test_for_each_state_by_itself(self):
        # of x = 0 a quarter goes, of x = 1 nothing
        self.check(
            self.part + "draw a: 0 by 1/3, 1 by 2/3\ncall b = f(a)", ["a", "b"],
            ((0, 1), (1, 4)), ((1, 1), (1, 6)), ((1, 2), (1, 2)),
        )
        self.tells(self.part + "draw a: 0 by 1/3, 1 by 2/3\ncall b = f(a)\ntell a", ((0,), (3, 11)), ((1,), (8, 11)))

    def test_states_alike_in_the_arguments(self):
        # the states of a = 0 and a = 1 call with the same argument, each for itself
        self.check(
            self.part + even("a", 2) + "call b = f(0)", ["a", "b"], ((0, 1), (3, 8)), ((1, 1), (3, 8)),
        )
        self.check(
            self.part + even("a", 2) + "call b = f(1)", ["a", "b"],
            ((0, 1), (1, 8)), ((0, 2), (3, 8)), ((1, 1), (1, 8)), ((1, 2), (3, 8)),
        )

    def test_each_call_draws_anew(self):
        part = "part f()\n" + even("x", 2) + "give x\n"
        self.check(
            part + "call a = f()\ncall b = f()", ["a", "b"],
            ((0, 0), (1, 4)), ((0, 1), (1, 4)), ((1, 0), (1, 4)), ((1, 1), (1, 4)),
        )
        self.check(
            part + "let s = 0\nrounds 2\ncall a = f()\nlet s = s + a\nend\nlet a = 0", ["a", "s"],
            ((0, 0), (1, 4)), ((0, 1), (1, 2)), ((0, 2), (1, 4)),
        )

    def test_arguments_in_their_order(self):
        self.check(
            "part f(b, a)\ngive b - a\n" + even("a", 2) + "let b = 5\ncall c = f(a, b)\ncall d = f(b + b, a)",
            ["a", "b", "c", "d"], ((0, 5, -5, 10), (1, 2)), ((1, 5, -4, 9), (1, 2)),
        )

    def test_parts_unlike_in_name_alone_are_told_apart(self):
        parts = "part f(x)\ngive x\npart g(x)\ngive x + 1\n"
        self.check(parts + "call a = f(1)\ncall b = g(1)", ["a", "b"], ((1, 2), (1, 1)))

    def test_parts_within_parts(self):
        text = (
            "part coin()\n" + even("x", 2) + "give x\n"
            "part two(x)\ncall a = coin()\ncall b = coin()\nseen a or b\ngive x + a + b\n"
            "if 1\ncall z = two(5)\nelse\nlet z = 0\nend"
        )
        self.check(text, ["z"], ((6,), (1, 2)), ((7,), (1, 4)))

    def test_seen_in_a_part_in_a_branch(self):
        self.check(
            "part f(x)\nseen x\ngive x\n" + even("a", 3) + "if a < 2\ncall a = f(a)\nend", ["a"],
            ((1,), (1, 3)), ((2,), (1, 3)),
        )


class Within(WalkCase):
    def test_if_within_if(self):
        self.check(
            even("a", 4) + "if a\nif a = 1\nlet b = 10\nelse\nseen a = 2\nlet b = 20\nend\nelse\nlet b = 30\nend",
            ["a", "b"], ((0, 30), (1, 4)), ((1, 10), (1, 4)), ((2, 20), (1, 4)),
        )

    def test_rounds_within_rounds_with_draws(self):
        self.check(
            "let s = 0\nrounds 2\nrounds 2\n" + even("x", 2) + "let s = s + x\nend\nend\nlet x = 0", ["s", "x"],
            ((0, 0), (1, 16)), ((1, 0), (1, 4)), ((2, 0), (3, 8)), ((3, 0), (1, 4)), ((4, 0), (1, 16)),
        )

    def test_all_within_rounds(self):
        text = (
            "part f(x)\n" + even("y", 2) + "seen x or y\ngive x + y\nlet s = 0\nrounds 2\nif s < 2\ncall s = f(s)\n"
            "else\ndraw s: 7 by 1/3, 8 by 2/3\nseen s = 8\nend\nend"
        )
        self.check(text, ["s"], ((1,), (1, 4)), ((2,), (1, 4)))

    def test_seen_in_one_branch(self):
        self.check(even("a", 3) + "if a\nseen a = 2\nend", ["a"], ((0,), (1, 3)), ((2,), (1, 3)))


class Shares(WalkCase):
    def test_states_are_not_divided_and_told_shares_are(self):
        text = "draw a: 0 by 1/6, 1 by 1/3, 2 by 1/2\nseen a < 2"
        self.check(text, ["a"], ((0,), (1, 6)), ((1,), (1, 3)))
        self.tells(text + "\ntell a", ((0,), (1, 3)), ((1,), (2, 3)))

    def test_total_is_the_share_of_what_was_seen(self):
        table = states(read(even("a", 6) + even("b", 6) + "seen a + b < 4\ntell a"))
        self.assertEqual(sum(Fraction(*share) for numbers, share in table[1]), Fraction(10, 36))

    def test_told_names_in_the_order_of_the_tells(self):
        text = "draw a: 0 by 1/3, 1 by 2/3\nlet b = 5 - a\nlet c = 7\n"
        self.tells(text + "tell b, a", ((4, 1), (2, 3)), ((5, 0), (1, 3)))
        self.tells(text + "tell a, b", ((0, 5), (1, 3)), ((1, 4), (2, 3)))
        self.tells(text + "tell c", ((7,), (1, 1)))
        self.tells(text + "tell c, a", ((7, 0), (1, 3)), ((7, 1), (2, 3)))

    def test_great_numbers(self):
        text = f"draw a: {GREAT} by 1/999999999, -{GREAT} by 999999998/999999999\nlet b = a + a\nseen b < 0\ntell b, a"
        self.tells(text, ((-2 * GREAT, -GREAT), (1, 1)))
        self.check(text.split("\ntell")[0], ["a", "b"], ((-GREAT, -2 * GREAT), (999999998, 999999999)))

    def test_cannot_be(self):
        part = "part f(x)\nseen x\ngive x\n"
        for text in (
            "let a = 1\nseen 0\ntell a", "seen 0\nlet a = 1\ntell a", even("a", 3) + "seen a = 3\ntell a",
            even("a", 2) + "if a\nseen 0\nelse\nseen a\nend\ntell a", part + "call a = f(0)\ntell a",
            "let a = 0\nrounds 3\nseen a < 2\nlet a = a + 1\nend\ntell a",
        ):
            with self.subTest(text=text):
                program = read(text)
                kept = copy.deepcopy(program)
                self.assertRaises(CannotBe, walked, program)
                self.assertEqual(states(program)[1], [])
                self.assertEqual(program, kept)

    def test_strewn(self):
        for program in strewn(300):
            for one in (program, spread(program)):
                with self.subTest(program=one):
                    expected = plain_shares(one)
                    if expected is None:
                        self.assertRaises(CannotBe, walked, one, max(1, ways(one)))
                        continue
                    found = walked(one, max(1, ways(one)))
                    self.assertEqual(found, expected)
                    self.assertTrue(all(share[0] > 0 for numbers, share in found))
                    self.assertEqual(sum(Fraction(*share) for numbers, share in found), 1)


class Most(WalkCase):
    def test_one_state(self):
        self.check_most("let a = 1\ntell a", 1)
        self.check_most("draw a: 3 by 1/1\nif a\nlet a = 4\nend\ntell a", 1)

    def test_behind_draws(self):
        self.check_most(even("a", 6) + "tell a", 6)
        self.check_most(even("a", 3) + even("b", 2) + "tell a", 6)
        self.check_most(even("a", 3) + even("b", 2) + "let a = 0\nlet b = 0\ntell a", 6)

    def test_what_is_seen_later_is_too_late(self):
        self.check_most(even("a", 5) + "seen a = 1\ntell a", 5)
        program = read("seen 0\n" + even("a", 5) + "let b = a\ntell b")
        self.assertEqual(states(program, 1), (("a", "b"), []))

    def test_alike_states_are_counted_once(self):
        self.check_most(even("a", 4) + even("a", 5) + "tell a", 5)

    def test_in_a_branch(self):
        # three of four go into the branch, and are six in it; behind it b is forgotten
        self.check_most(even("a", 4) + "if a\n" + even("b", 2) + "end\ntell a", 6)
        self.check_most(even("a", 4) + "if a = 0\nelse\n" + even("b", 2) + "end\ntell a", 6)
        # two and two go in, each branch has four, all together there would be eight
        self.check_most(even("a", 4) + "if a < 2\n" + even("b", 2) + "else\n" + even("c", 2) + "end\ntell a", 4)
        self.check_most(even("a", 4) + "if a < 2\n" + even("b", 3) + "else\n" + even("c", 2) + "end\ntell a", 6)

    def test_behind_an_if(self):
        # four in each branch, eight behind both
        self.check_most(even("a", 4) + "if a < 2\n" + even("b", 2) + "else\n" + even("b", 2) + "end\ntell a", 8)
        # of the eight some are alike, as the branches leave them
        first = "let a = 0\n" + even("b", 2)
        second = "let a = 0\n" + even("b", 2, 1)
        self.check_most(even("a", 4) + "if a < 2\n" + first + "else\n" + second + "end\ntell a", 4)
        self.check_most(even("a", 2) + "if a\n" + even("b", 3) + "else\n" + even("b", 3, 2) + "end\ntell b", 6)

    def test_in_a_part(self):
        # the caller has two states; of each one call has five
        self.check_most("part f()\n" + even("x", 5) + "give 1\n" + even("a", 2) + "call b = f()\ntell b", 5)
        # the caller has four, of each one call has three
        self.check_most("part f(y)\n" + even("x", 3) + "give y\n" + even("a", 4) + "call b = f(a)\ntell b", 4)
        self.check_most("part f(y)\n" + even("x", 3) + "give x\n" + even("a", 4) + "call b = f(a)\ntell b", 12)
        # of one argument alone the part has many
        text = "part f(y)\nif y = 3\n" + even("x", 6) + "end\ngive y\n" + even("a", 4) + "call b = f(a)\ntell b"
        self.check_most(text, 6)

    def test_in_a_part_of_a_part_and_in_rounds(self):
        text = "part f()\n" + even("x", 6) + "give 0\npart g()\n" + even("x", 2) + "call x = f()\ngive x\n"
        self.check_most(text + even("a", 3) + "rounds 2\ncall a = g()\nend\ntell a", 6)
        self.check_most("let s = 0\nrounds 5\n" + even("x", 2) + "let s = s + x\nlet x = 0\nend\ntell s", 10)

    def test_the_built_in_most(self):
        draws = even("a", 5) + even("b", 5) + even("c", 5) + even("d", 4)
        program = read(draws + "tell a, b, c, d")
        self.assertEqual(len(states(program)[1]), 500)
        self.assertEqual(len(walked(program)), 500)
        program = read(even("a", 6) + even("b", 6) + even("c", 6) + "draw d: 1 by 1/2, 0 by 1/2\nlet e = a\n"
                       "if d\ndraw f: 1 by 1/2, 0 by 1/2\nelse\nlet f = 2\nend\ntell a")
        self.refused(program, 500)
        self.assertEqual(len(states(program, 648)[1]), 648)
        # one state of the five hundred becomes two
        text = even("a", 5) + even("b", 5) + even("c", 5) + even("d", 4) + "if a + b + c + d\nlet e = 0\nelse\n"
        self.assertEqual(len(states(read(text + "let e = 0\nend\ntell e"))[1]), 500)
        program = read(text + even("e", 2) + "end\ntell e")
        self.refused(program, 500)
        self.assertEqual(len(states(program, 501)[1]), 501)

    def test_as_great_as_the_ways(self):
        for program in strewn(300):
            with self.subTest(program=program):
                states(program, max(1, ways(program)))
                sheet = spread(program)
                states(sheet, ways(sheet))

    def test_far_too_many_are_refused_soon(self):
        text = "".join(even(f"x{number}", 6) for number in range(60))
        self.refused(read(text + "tell x0"), 20000, 20000)


class LittleTime(WalkCase):
    def test_sixty_draws(self):
        text = "let s = 0\nrounds 60\n" + even("x", 2) + "let s = s + x\nend\ntell s"
        program = read(text)
        look(program)
        found = walked(program)
        self.assertEqual(len(found), 61)
        self.assertEqual(found[0], ((0,), (1, 2 ** 60)))
        self.assertEqual(found[1], ((1,), pair(Fraction(60, 2 ** 60))))

    def test_sixty_draws_of_great_shares(self):
        text = "let s = 0\nrounds 60\ndraw x: 0 by 1/999999937, 1 by 999999936/999999937\nlet s = s + x\nend\ntell s"
        self.assertEqual(walked(read(text))[0], ((0,), (1, 999999937 ** 60)))

    def test_many_rounds(self):
        program = read(even("x", 2) + "rounds 199\nlet x = not x\nend\ntell x")
        look(program)
        self.assertEqual(walked(program, 2), [((0,), (1, 2)), ((1,), (1, 2))])
        program = read("let x = 0\nrounds 400\nend\ntell x")
        self.assertEqual(walked(program, 1), [((0,), (1, 1))])

    def test_parts_called_by_many_states(self):
        # without taking like calls together there would be a walk of thirty draws for each of 500 states
        text = "part f()\nlet s = 0\nrounds 30\n" + even("x", 2) + "let s = s + x\nend\ngive s < 10\n"
        states_ahead = even("a", 5) + even("b", 5) + even("c", 5) + even("d", 2)
        program = read(text + states_ahead + "call e = f()\ntell e")
        look(program)
        self.assertEqual(sum(Fraction(*share) for numbers, share in walked(program)), 1)

    def test_a_sheet_of_four_hundred_rows(self):
        rows = [even("v0", 6).strip()] + [f"let v{number} = v{number - 1} + v0 - v0" for number in range(1, 400)]
        program = read("\n".join(rows) + "\ntell v399")
        self.assertEqual(walked(program, 6), [((number,), (1, 6)) for number in range(6)])


class Sheets(WalkCase):
    def test_a_sheet_with_more_than_400_steps(self):
        rows = [even("v0", 2).strip()] + ["seen v0"] * 399
        program = read("\n".join(rows) + "\ntell v0")
        self.assertRaises(TooMany, look, program)
        self.assertEqual(walked(program), [((1,), (1, 1))])
        self.assertEqual(states(program), (("v0",), [((1,), (1, 2))]))

    def test_spread_programs(self):
        text = even("a", 3) + "if a\nseen a = 2\nlet b = 1\nelse\nlet b = 5\nend\n"
        sheet = spread(read(text + "tell b, a"))
        self.assertEqual(walked(sheet), [((1, 2), (1, 2)), ((5, 0), (1, 2))])
        self.assertEqual(walked(sheet), walked(read(text + "tell b, a")))


class NothingShared(unittest.TestCase):
    text = "part f(x)\n" + even("y", 2) + "give x + y\n" + even("a", 2) + "rounds 2\ncall a = f(a)\nend\ntell a"

    def test_what_was_told_is_new(self):
        program = read(self.text)
        kept = copy.deepcopy(program)
        table = states(program)
        shares = walked(program)
        expected = copy.deepcopy((table, shares))
        table[1].clear()
        shares.append("spoilt")
        self.assertEqual(program, kept)
        self.assertEqual((states(program), walked(program)), expected)

    def test_what_was_told_stays(self):
        program = read(self.text)
        table = states(program)
        shares = walked(program)
        expected = copy.deepcopy((table, shares))
        program[1][0][2].clear()
        program[1].clear()
        program[0].clear()
        program[2].clear()
        self.assertEqual((table, shares), expected)

    def test_two_walks_side_by_side(self):
        one = read("part f(x)\ngive x\ncall a = f(1)\ntell a")
        other = read("part f(x)\ngive x + 1\ncall a = f(1)\ntell a")
        self.assertEqual([walked(one), walked(other), walked(one)],
                         [[((1,), (1, 1))], [((2,), (1, 1))], [((1,), (1, 1))]])


if __name__ == "__main__":
    unittest.main()
