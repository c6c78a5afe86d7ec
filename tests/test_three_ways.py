"""The walk, the tables and the graph tell the same, or each refuses [3]."""

import copy
import unittest
from fractions import Fraction

from fairdraw.asking import by_graph
from fairdraw.kinds import by_tables
from fairdraw.looking import look
from fairdraw.reading import read
from fairdraw.spreading import spread
from fairdraw.walking import walked
from helper import answered, even, plain_shares, strewn

MOST = 10 ** 6
CANNOT_BE = ("CannotBe",)


def all_ways(program, most):
    """What the walk of a program, and the walk, the tables and the graph of its sheet tell."""
    sheet = spread(program)
    return [
        answered(walked, program, most), answered(walked, sheet, most),
        answered(by_tables, sheet, None, most), answered(by_graph, sheet, most),
    ]


class ThreeWays(unittest.TestCase):
    def check(self, text, *rows):
        program = read(text)
        look(program)
        self.assertEqual(all_ways(program, MOST), [list(rows)] * 4)

    def test_strewn_programs(self):
        cannot_be = 0
        for program in strewn(500):
            look(program)
            kept = copy.deepcopy(program)
            with self.subTest(program=program):
                found = all_ways(program, MOST)
                self.assertEqual(found, [plain_shares(program) or CANNOT_BE] * 4)
                self.assertEqual(program, kept)
                if found[0] == CANNOT_BE:
                    cannot_be += 1
                else:
                    self.assertEqual(sum(Fraction(*share) for numbers, share in found[0]), 1)
                    self.assertTrue(all(share[0] > 0 for numbers, share in found[0]))
        # both sides of the promise are among them
        self.assertTrue(20 < cannot_be < 480)

    def test_refusals_stand_in_the_place_of_either(self):
        refused = 0
        for program in strewn(200):
            expected = plain_shares(program) or CANNOT_BE
            for most in (1, 3, 9):
                for found in all_ways(program, most):
                    with self.subTest(program=program, most=most):
                        self.assertIn(found, [expected, ("TooMany", most)])
                        refused += found != expected
        self.assertGreater(refused, 100)

    def test_all_kinds_of_rows(self):
        part = "part best(x, y)\nif x < y\nlet x = y\nend\ngive x\n"
        rounds = "rounds 2\nif c = 1\n" + even("d", 2) + "let c = c + d\nelse\nseen a\nend\nend\n"
        draws = even("a", 3) + even("b", 3)
        plain = read(draws + "let c = pick(a < b, b, a)\n" + rounds + "tell c, a")
        self.check(part + draws + "call c = best(a, b)\n" + rounds + "tell c, a", *plain_shares(plain))

    def test_by_hand(self):
        # of two children one at least is a girl
        self.check(even("a", 2) + even("b", 2) + "seen a or b\nlet c = a and b\ntell c", ((0,), (2, 3)), ((1,), (1, 3)))
        # one of three doors, one that is opened, and whether to change
        text = (
            even("car", 3) + "if car = 0\n" + even("shown", 2, 1) + "else\nlet shown = 3 - car\nend\n"
            "let other = 3 - shown\nlet wins = car = other\ntell wins"
        )
        self.check(text, ((0,), (1, 3)), ((1,), (2, 3)))
        # a coin of unknown kind that fell on its head three times
        text = even("kind", 2) + "rounds 3\nif kind\ndraw x: 1 by 9/10, 0 by 1/10\nelse\n" + even("x", 2)
        self.check(text + "end\nseen x\nend\ntell kind", ((0,), (125, 854)), ((1,), (729, 854)))

    def test_cannot_be(self):
        for text in (
            "seen 0\nlet a = 1\ntell a", even("a", 2) + "if a\nseen 0\nelse\nseen a\nend\ntell a",
            "part f(x)\nseen x < 0\ngive x\n" + even("a", 2) + "call b = f(a)\ntell b",
            "let a = 0\nrounds 3\nseen a < 2\nlet a = a + 1\nend\ntell a",
        ):
            program = read(text)
            look(program)
            self.assertEqual(all_ways(program, MOST), [CANNOT_BE] * 4)


if __name__ == "__main__":
    unittest.main()
