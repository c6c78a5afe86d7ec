"""The three runners, and told shares as texts [38] [39] [2] [3]."""

import copy
import unittest
from fractions import Fraction

from fairdraw.asking import by_graph
from fairdraw.errors import NoName, TooMany
from fairdraw.kinds import by_tables
from fairdraw.looking import look
from fairdraw.reading import read
from fairdraw.runners import Grapher, Runner, Tabler, Walker, show_told
from fairdraw.spreading import spread
from fairdraw.walking import walked
from helper import (
    answered, coins, drawn, even, plain_graph_most, plain_kinds, plain_shares, plain_tables_most, plain_walked, strewn,
)

RUNNERS = (Walker, Tabler, Grapher)
MOST = 10 ** 6
CANNOT_BE = ("CannotBe",)
# each is refused by the looker, and cannot be as far as it can be walked
REFUSED = [
    ("part f()\ngive 1\npart f()\ngive 1\nseen 0\nlet a = 1\ntell a", ("Twice", "f")),
    ("seen 0\ndraw a: 3 by 1/2, 3 by 1/2\ntell a", ("Twice", 3)),
    ("seen 0\nlet a = 1\ntell a, a", ("Twice", "a")),
    ("seen 0\ndraw a: 3 by 1/2, 4 by 1/3\ntell a", ("NoShares", (5, 6))),
    ("seen 0\nlet a = b\ntell a", ("NoName", "b")),
    ("seen 0\nlet a = 1\ntell b", ("NoName", "b")),
    ("seen 0\ncall a = f()\ntell a", ("NoName", "f")),
    ("part f(x)\ngive x\nseen 0\ncall a = f()\ntell a", ("NoCall", "f")),
    ("seen 0\nlet a = 1\n" + "rounds 200\nlet a = 2\nend\ntell a", ("TooMany", 400)),
    ("seen 0\nrounds 61\n" + even("a", 2) + "end\ntell a", ("TooMany", 60)),
    ("let a = 1\nif 1\nseen 0\nelse\nlet b = c\nend\ntell a", ("NoName", "c")),
]


class Kinds(unittest.TestCase):
    def test_each_is_a_runner(self):
        for kind in RUNNERS:
            self.assertTrue(issubclass(kind, Runner))
            self.assertIsInstance(kind(), Runner)
            self.assertIsInstance(kind(7), Runner)
        for kind in RUNNERS:
            for other in RUNNERS:
                self.assertEqual(issubclass(kind, other), kind == other)

    def test_a_runner_is_made_likewise(self):
        Runner()
        Runner(3)


class Tells(unittest.TestCase):
    def check(self, text, *rows):
        program = read(text)
        kept = copy.deepcopy(program)
        for kind in RUNNERS:
            for runner in (kind(), kind(100), kind(MOST)):
                found = runner.tell(program)
                self.assertEqual(found, list(rows))
                self.assertIs(found.__class__, list)
                # asked again it tells the same
                self.assertEqual(runner.tell(program), list(rows))
        self.assertEqual(program, kept)

    def test_rows_of_all_kinds(self):
        self.check("let a = 3\ntell a", ((3,), (1, 1)))
        self.check(drawn("a", 2, -1) + "tell a", ((-1,), (1, 2)), ((2,), (1, 2)))
        self.check(coins("a", "b") + "seen a or b\nlet c = a + b\ntell c, a",
                   ((1, 0), (1, 3)), ((1, 1), (1, 3)), ((2, 1), (1, 3)))
        self.check(coins("a") + "let b = 0\nif a\n" + coins("b") + "end\ntell b", ((0,), (3, 4)), ((1,), (1, 4)))
        self.check("let b = 0\nrounds 2\n" + coins("a") + "let b = b + a\nend\ntell b",
                   ((0,), (1, 4)), ((1,), (1, 2)), ((2,), (1, 4)))
        self.check("part f(x)\n" + coins("y") + "seen x or y\ngive x + y\n" + coins("a") + "call b = f(a)\ntell b",
                   ((1,), (2, 3)), ((2,), (1, 3)))

    def test_a_sheet(self):
        text = coins("v7", "v3") + "seen v3\nlet a = v7 - v3\ntell a"
        self.check(text, ((-1,), (1, 2)), ((0,), (1, 2)))

    def test_cannot_be(self):
        for text in ("seen 0\nlet a = 1\ntell a", coins("a") + "if a\nseen not a\nelse\nseen a\nend\ntell a"):
            for kind in RUNNERS:
                self.assertEqual(answered(kind().tell, read(text)), CANNOT_BE)

    def test_strewn(self):
        cannot_be = 0
        for program in strewn(250):
            look(program)
            kept = copy.deepcopy(program)
            expected = plain_shares(program) or CANNOT_BE
            with self.subTest(program=program):
                for kind in RUNNERS:
                    self.assertEqual(answered(kind(MOST).tell, program), expected)
                self.assertEqual(program, kept)
            cannot_be += expected == CANNOT_BE
            if expected != CANNOT_BE:
                self.assertEqual(sum(Fraction(*share) for numbers, share in expected), 1)
        self.assertTrue(10 < cannot_be < 240)


class Looks(unittest.TestCase):
    def test_refusals_ahead_of_all(self):
        for text, expected in REFUSED:
            program = read(text)
            self.assertEqual(answered(look, program), expected)
            for kind in RUNNERS:
                for runner in (kind(), kind(1)):
                    with self.subTest(text=text, kind=kind):
                        self.assertEqual(answered(runner.tell, program), expected)

    def test_ahead_of_too_many(self):
        text = "".join(even(f"a{number}", 6) for number in range(6)) + "tell a0, a1, a2, a3, a4, b"
        for kind in RUNNERS:
            with self.assertRaises(NoName) as caught:
                kind(2).tell(read(text))
            self.assertEqual(caught.exception.name, "b")

    def test_a_runner_goes_on_behind_a_refusal(self):
        for kind in RUNNERS:
            runner = kind(2)
            self.assertEqual(answered(runner.tell, read("tell a")), ("NoName", "a"))
            self.assertEqual(answered(runner.tell, read(coins("a", "b") + "tell a, b")), ("TooMany", 2))
            self.assertEqual(answered(runner.tell, read("let a = 1\nseen 0\ntell a")), CANNOT_BE)
            self.assertEqual(runner.tell(read("let a = 1\ntell a")), [((1,), (1, 1))])


class Most(unittest.TestCase):
    def check(self, program, kind, most):
        """Told, or refused with CannotBe, with just so many and more; refused with one less."""
        expected = plain_shares(program) or CANNOT_BE
        self.assertEqual(answered(kind(most).tell, program), expected)
        self.assertEqual(answered(kind(most + 1).tell, program), expected)
        if most > 1:
            self.assertEqual(answered(kind(most - 1).tell, program), ("TooMany", most - 1))

    def check_all(self, text, walker, tabler, grapher):
        program = read(text)
        for kind, most in zip(RUNNERS, (walker, tabler, grapher)):
            with self.subTest(text=text, kind=kind):
                self.check(program, kind, most)

    def test_its_own_measure(self):
        self.check_all("let a = 3\ntell a", 1, 1, 1)
        # a draw's table is no join
        self.check_all(even("a", 6) + "tell a", 6, 1, 7)
        self.check_all(coins("a", "b", "c") + "let s = a + b + c\ntell s", 8, 8, 10)
        self.check_all(coins("a", "b", "c", "d") + "tell a", 16, 2, 3)
        self.check_all(coins("a", "b", "c", "d", "e") + "seen e\ntell a, b, c, d, e", 32, 32, 16)

    def test_a_program_is_walked_and_not_its_sheet(self):
        # the sheet of this program has 64 states
        text = "rounds 6\n" + coins("a") + "end\ntell a"
        self.check_all(text, 2, 2, 3)
        self.assertEqual(answered(walked, spread(read(text)), 63), ("TooMany", 63))

    def test_the_best_order(self):
        text = coins("hub") + "".join(f"let a{number} = hub\n" for number in range(8)) + "tell hub"
        program = read(text)
        self.assertEqual(Tabler(2).tell(program), [((0,), (1, 2)), ((1,), (1, 2))])

    def test_strewn(self):
        unlike = 0
        for program in strewn(120, 40):
            sheet = spread(program)
            if plain_kinds(sheet)[1] > 300:
                continue
            mosts = (plain_walked(program)[1], plain_tables_most(sheet), plain_graph_most(sheet))
            for kind, most in zip(RUNNERS, mosts):
                with self.subTest(program=program, kind=kind):
                    self.check(program, kind, most)
            unlike += len(set(mosts)) == 3
        self.assertGreater(unlike, 20)

    def test_the_built_in_most(self):
        text = even("a", 5) + even("b", 5) + even("c", 5) + even("d", 4)
        expected = plain_shares(read(text + "tell a, b, c, d"))
        self.assertEqual(len(expected), 500)
        more = text.replace(even("d", 4), "") + "if a + b + c = 0\n" + even("d", 5) + "else\n" + even("d", 4) + "end\n"
        for kind in RUNNERS:
            self.assertEqual(kind().tell(read(text + "tell a, b, c, d")), expected)
            self.assertEqual(answered(kind().tell, read(more + "tell a, b, c, d")), ("TooMany", 500))
        self.assertEqual(len(Walker(501).tell(read(more + "tell a, b, c, d"))), 501)
        self.assertEqual(answered(Walker(500).tell, read(more + "tell a, b, c, d")), ("TooMany", 500))

    def test_the_built_in_most_is_500(self):
        for program in [read(coins(*[f"a{number}" for number in range(many)]) + "let s = "
                             + " + ".join(f"a{number}" for number in range(many)) + "\ntell s") for many in (8, 9, 10)]:
            sheet = spread(program)
            self.assertEqual(answered(Walker().tell, program), answered(walked, program, 500))
            self.assertEqual(answered(Tabler().tell, program), answered(by_tables, sheet, None, 500))
            self.assertEqual(answered(Grapher().tell, program), answered(by_graph, sheet, 500))

    def test_two_runners_by_turns(self):
        small = read(coins("a") + "tell a")
        great = read(coins("a", "b", "c") + "let s = a + b + c\ntell s, a, b, c")
        for kind in RUNNERS:
            one = kind(3)
            other = kind(20)
            for time in range(3):
                self.assertEqual(one.tell(small), plain_shares(small))
                self.assertEqual(answered(one.tell, great), ("TooMany", 3))
                self.assertEqual(other.tell(great), plain_shares(great))
                self.assertEqual(other.tell(small), plain_shares(small))

    def test_the_refusal_s_class(self):
        for kind in RUNNERS:
            self.assertRaises(TooMany, kind(1).tell, read(coins("a", "b") + "tell a, b"))


class NothingShared(unittest.TestCase):
    def test_what_was_told_is_new_and_stays(self):
        text = "part f(x)\ngive x\n" + coins("a", "b") + "if a\ncall b = f(a)\nend\ntell b, a"
        for kind in RUNNERS:
            program = read(text)
            kept = copy.deepcopy(program)
            runner = kind()
            found = runner.tell(program)
            expected = list(found)
            found.clear()
            self.assertEqual(program, kept)
            found = runner.tell(program)
            self.assertEqual(found, expected)
            program[1][0][2].clear()
            program[1].clear()
            program[2].clear()
            self.assertEqual(found, expected)
            # nothing is kept of what was asked ahead
            self.assertEqual(runner.tell(read("let a = 7\ntell a")), [((7,), (1, 1))])
            self.assertEqual(found, expected)


class ShowTold(unittest.TestCase):
    def check(self, some, text):
        kept = copy.deepcopy(some)
        self.assertEqual(show_told(some), text)
        self.assertEqual(some, kept)

    def test_one_value(self):
        self.check([((3,), (1, 1))], "3 by 1/1")
        self.check([((0,), (1, 3)), ((1,), (2, 3))], "0 by 1/3; 1 by 2/3")

    def test_several_values(self):
        self.check([((0, 1), (1, 3)), ((2, -1), (2, 3))], "0 1 by 1/3; 2 -1 by 2/3")
        self.check([((1, 2, 3, 4, 5, 6), (7, 8))], "1 2 3 4 5 6 by 7/8")

    def test_values_below_0(self):
        self.check([((-12,), (1, 2)), ((-3,), (1, 2))], "-12 by 1/2; -3 by 1/2")
        self.check([((-1, -2), (1, 1))], "-1 -2 by 1/1")

    def test_rows_in_the_order_handed_in(self):
        self.check([((5,), (1, 6)), ((-2,), (1, 3)), ((9,), (1, 4)), ((0,), (1, 4))],
                   "5 by 1/6; -2 by 1/3; 9 by 1/4; 0 by 1/4")
        # whatever rows these are
        self.check([((5,), (1, 6)), ((5,), (1, 6))], "5 by 1/6; 5 by 1/6")

    def test_none(self):
        self.check([], "")

    def test_great_numbers(self):
        great = 10 ** 4000 - 1
        self.check([((great, -great), (great, great + 1))], f"{great} -{great} by {great}/{great + 1}")

    def test_what_a_runner_tells(self):
        program = read(coins("a", "b") + "seen a or b\nlet c = a - b\ntell c, b")
        self.assertEqual(show_told(Walker().tell(program)), "-1 1 by 1/3; 0 1 by 1/3; 1 0 by 1/3")


if __name__ == "__main__":
    unittest.main()
