"""The looker's refusals, in their order [13] [14] [2]."""

import copy
import itertools
import unittest

from fairdraw.errors import DrawError, NoCall, NoName, NoShares, TooMany, Twice
from fairdraw.looking import look
from fairdraw.reading import read
from helper import strewn

FIELDS = {Twice: "what", NoShares: "total", NoName: "name", NoCall: "name", TooMany: "most"}

# each place has what is well there, what is not, and how this is refused; they stand in the looker's order
PLACES = [
    ("p1", "y", "x", Twice, "x"),
    ("d1", "2", "1", Twice, 1),
    ("d2", "1/2", "1/3", NoShares, (5, 6)),
    ("l1", "x", "q1", NoName, "q1"),
    ("s1", "u", "q2", NoName, "q2"),
    ("g1", "u", "q3", NoName, "q3"),
    ("f2", "g", "f", Twice, "f"),
    ("c1", "f", "g", NoName, "g"),
    ("c2", "(1, 2)", "(1)", NoCall, "f"),
    ("g2", "t", "x", NoName, "x"),
    ("d3", "-3", "7", Twice, 7),
    ("d4", "1/2", "2/3", NoShares, (7, 6)),
    ("i1", "a", "q4", NoName, "q4"),
    ("i2", "a", "q5", NoName, "q5"),
    ("i3", "a", "w", NoName, "w"),
    ("r1", "b", "q6", NoName, "q6"),
    ("c3", "g", "q7", NoName, "q7"),
    ("c4", "a, b", "a, b, c", NoCall, "f"),
    ("c5", "a", "q8", NoName, "q8"),
    ("c6", "a", "q9", NoName, "q9"),
    ("t1", "a", "w", NoName, "w"),
    ("t2", "b", "a", Twice, "a"),
    ("t3", "c", "z", NoName, "z"),
]
FORM = """
part f(x, {p1})
draw d: 1 by 1/2, {d1} by {d2}
let u = x + {l1}
seen u + {s1}
give {g1}
part {f2}()
call t = {c1}{c2}
give {g2}
draw a: 7 by 1/2, {d3} by {d4}
let b = a
if {i1}
let w = {i2}
else
seen {i3}
end
rounds 0
let z = {r1}
end
call c = {c3}()
call c = f({c4})
call c = f({c5}, {c6})
tell {t1}, {t2}, {t3}
"""


def filled(bad):
    """The form with what is not well at these places."""
    return read(FORM.format(**{place[0]: place[2 if place[0] in bad else 1] for place in PLACES}))


class LookCase(unittest.TestCase):
    def check(self, program, refusal=None, field=None):
        if isinstance(program, str):
            program = read(program)
        kept = copy.deepcopy(program)
        try:
            told = look(program)
        except DrawError as error:
            self.assertIs(error.__class__, refusal, program)
            self.assertEqual(getattr(error, FIELDS[refusal]), field)
            self.assertIs(getattr(error, FIELDS[refusal]).__class__, field.__class__)
        else:
            self.assertIsNone(told)
            self.assertIsNone(refusal, program)
        self.assertEqual(program, kept)


class Order(LookCase):
    def test_no_fault(self):
        self.check(filled([]))

    def test_each_fault_alone(self):
        for place in PLACES:
            with self.subTest(place=place):
                self.check(filled([place[0]]), place[3], place[4])

    def test_of_two_faults_the_first_one(self):
        for first, second in itertools.combinations(PLACES, 2):
            with self.subTest(first=first, second=second):
                self.check(filled([first[0], second[0]]), first[3], first[4])

    def test_all_faults_from_some_place_on(self):
        for number, place in enumerate(PLACES):
            with self.subTest(place=place):
                self.check(filled([other[0] for other in PLACES[number:]]), place[3], place[4])


class Twices(LookCase):
    def test_part_names(self):
        part = "part f()\ngive 0\n"
        other = "part g()\ngive 0\n"
        self.check(part + other + "let x = 1\ntell x")
        self.check(part + part + "let x = 1\ntell x", Twice, "f")
        self.check(part + other + part + "let x = 1\ntell x", Twice, "f")
        self.check(part + other + other + part + "let x = 1\ntell x", Twice, "g")

    def test_a_part_s_name_is_no_name_of_a_value(self):
        self.check("part f(f)\nlet f = f\ngive f\nlet f = 1\ncall f = f(f)\ntell f")
        self.check("part f()\ngive f\nlet x = 1\ntell x", NoName, "f")
        self.check("part f()\ngive 1\nlet x = f\ntell x", NoName, "f")
        self.check("part f()\ngive 1\nlet x = 1\ntell f", NoName, "f")
        self.check("let f = 1\ncall x = f()\ntell x", NoName, "f")

    def test_parameters(self):
        tail = "\ngive 0\nlet x = 1\ntell x"
        self.check("part f(a, ab, abc, b)" + tail)
        self.check("part f(a, b, a)" + tail, Twice, "a")
        self.check("part f(a, b, b, a)" + tail, Twice, "b")
        self.check("part f(a, a)" + tail, Twice, "a")
        self.check("part f(a)\ngive a\npart g(a)\ngive a\nlet x = 1\ntell x")

    def test_values_of_a_draw(self):
        for text, what in [
            ("1 by 1/2, 1 by 1/2", 1),
            ("1 by 1/3, 0 by 1/3, 1 by 1/3", 1),
            ("3 by 1/4, -2 by 1/4, -2 by 1/4, 3 by 1/4", -2),
            ("0 by 1/2, -0 by 1/2", 0),
        ]:
            self.check("draw x: " + text + "\ntell x", Twice, what)
        self.check("draw x: 1 by 1/2, -1 by 1/2\ntell x")
        great = 10 ** 60 - 1
        self.check(([], [("draw", "x", [(great, (1, 2)), (-great, (1, 2))])], ["x"]))
        self.check(([], [("draw", "x", [(great, (1, 2)), (great, (1, 2))])], ["x"]), Twice, great)
        self.check("draw x: 1 by 1/2, 2 by 1/2\ndraw y: 1 by 1/2, 2 by 1/2\ntell x")

    def test_values_ahead_of_shares(self):
        self.check("draw x: 1 by 1/2, 1 by 1/3\ntell x", Twice, 1)
        self.check("draw x: 1 by 9/2, 5 by 1/3, 5 by 1/6\ntell x", Twice, 5)

    def test_told_names(self):
        self.check("let x = 1\nlet y = 1\ntell x, y, x", Twice, "x")
        self.check("let x = 1\nlet y = 1\ntell x, y, y, x", Twice, "y")
        self.check("let x = 1\ntell x, x, z", Twice, "x")
        self.check("let x = 1\ntell x, z, x", NoName, "z")
        self.check("let x = 1\ntell z, z", NoName, "z")


class Shares(LookCase):
    def test_one(self):
        for text in (
            "5 by 1/1", "5 by 7/7", "1 by 1/2, 2 by 1/2", "1 by 1/2, 2 by 1/3, 3 by 1/6",
            "1 by 1/6, 2 by 1/6, 3 by 1/6, 4 by 1/6, 5 by 1/6, 6 by 1/6",
            "1 by 999999998/999999999, 2 by 1/999999999",
        ):
            self.check("draw x: " + text + "\ntell x")

    def test_below_and_above_one(self):
        for text, total in [
            ("5 by 1/2", (1, 2)), ("5 by 4/2", (2, 1)), ("1 by 1/2, 2 by 1/3", (5, 6)),
            ("1 by 1/2, 2 by 1/2, 3 by 1/2", (3, 2)), ("1 by 1/4, 2 by 1/4", (1, 2)),
            ("1 by 1/2, 2 by 999999998/999999999", (2999999995, 1999999998)),
        ]:
            self.check("draw x: " + text + "\ntell x", NoShares, total)
            self.check("part f()\ndraw x: " + text + "\ngive x\nlet y = 1\ntell y", NoShares, total)
            self.check("rounds 0\ndraw x: " + text + "\nend\nlet y = 1\ntell y", NoShares, total)


class UnknownNames(LookCase):
    def test_each_place_of_an_expression(self):
        for rows in (
            ["let x = {e}"], ["seen {e}"], ["if {e}", "end"],
            ["if 1", "seen {e}", "end"], ["if 1", "else", "let x = {e}", "end"],
            ["rounds 1", "seen {e}", "end"], ["rounds 0", "seen {e}", "end"],
            ["call x = f({e}, 1)"], ["call x = f(1, {e})"],
        ):
            for e, name in [
                ("q", "q"), ("a + q", "q"), ("q + r", "q"), ("r - (q + a)", "r"), ("not q", "q"),
                ("pick(a, b, q)", "q"), ("pick(a, s, r)", "s"), ("a < b and q", "q"), ("a1", "a1"), ("a + ab", "ab"),
            ]:
                body = "\n".join(["let a = 1", "let b = 2"] + rows).replace("{e}", e)
                ahead = "part f(x, y)\ngive x\n"
                with self.subTest(body=body):
                    self.check(ahead + body + "\ntell a", NoName, name)
                    self.check(ahead + "part g()\n" + body + "\ngive 1\nlet a = 1\ntell a", NoName, name)

    def test_first_argument_first(self):
        ahead = "part f(x, y)\ngive x\n"
        self.check(ahead + "call x = f(q, r)\ntell x", NoName, "q")
        self.check(ahead + "call x = f(r, q)\ntell x", NoName, "r")

    def test_results_and_tells(self):
        self.check("part f(x)\nlet y = x\ngive x + q + y + r\nlet a = 1\ntell a", NoName, "q")
        self.check("let a = 1\ntell a, q, r", NoName, "q")
        self.check("tell q", NoName, "q")

    def test_a_name_read_by_the_row_that_gives_it(self):
        self.check("let x = x\ntell x", NoName, "x")
        self.check("part f(y)\ngive y\ncall x = f(x)\ntell x", NoName, "x")
        self.check("let x = 1\nlet x = x + x\ntell x")
        self.check("part f(y)\ngive y\nlet x = 1\ncall x = f(x)\ntell x")
        self.check("let y = x\nlet x = 1\ntell x", NoName, "x")

    def test_each_row_gives_its_name(self):
        for row in ("draw x: 1 by 1/1", "let x = 1", "call x = f()"):
            self.check("part f()\ngive 1\n" + row + "\nseen x\ntell x")

    def test_forgotten_behind_a_choice(self):
        self.check("if 1\nlet x = 1\nend\ntell x", NoName, "x")
        self.check("if 1\nelse\nlet x = 1\nend\nlet y = x\ntell y", NoName, "x")
        self.check("if 1\nlet x = 1\nelse\nlet y = 2\nend\nseen 1 + y\nlet z = 1\ntell z", NoName, "y")
        self.check("if 1\nlet x = 1\nelse\ndraw x: 1 by 1/1\nend\ntell x")
        self.check("let x = 0\nif 1\nlet x = 1\nend\ntell x")
        self.check("part f()\nif 1\nlet x = 1\nend\ngive x\nlet y = 1\ntell y", NoName, "x")

    def test_second_rows_know_what_was_known_ahead(self):
        self.check("if 1\nlet x = 1\nelse\nlet y = x\nend\nlet z = 1\ntell z", NoName, "x")
        self.check("let x = 1\nif 1\nlet y = x\nelse\nlet y = x\nend\ntell y")
        self.check("if 1\nlet x = 1\nseen x\nelse\nseen 1\nend\nlet z = 1\ntell z")

    def test_first_rows_ahead_of_second_rows(self):
        self.check("if q\nseen r\nelse\nseen s\nend\nlet z = 1\ntell z", NoName, "q")
        self.check("if 1\nseen r\nelse\nseen s\nend\nlet z = 1\ntell z", NoName, "r")
        self.check("if 1\nseen 1\nelse\nseen s\nend\nlet z = t\ntell z", NoName, "s")

    def test_rounds(self):
        self.check("rounds 0\nlet x = 1\nseen x\nend\nlet y = 1\ntell y")
        self.check("rounds 0\nlet x = 1\nend\ntell x", NoName, "x")
        self.check("rounds 0\nlet x = 1\nend\nlet y = x\ntell y", NoName, "x")
        self.check("rounds 1\nlet x = 1\nend\ntell x")
        self.check("rounds 3\nlet x = 1\nend\ntell x")
        self.check("let x = 7\nrounds 0\nlet x = 1\nend\ntell x")
        self.check("rounds 0\nseen q\nend\nlet y = 1\ntell y", NoName, "q")
        self.check("rounds 0\ndraw x: 1 by 1/1, 1 by 1/1\nend\nlet y = 1\ntell y", Twice, 1)
        self.check("rounds 0\ncall x = f()\nend\nlet y = 1\ntell y", NoName, "f")

    def test_rounds_are_gone_through_once_with_the_names_known_ahead(self):
        # from the second time on it would be known
        self.check("rounds 3\nseen x\nlet x = 1\nend\ntell x", NoName, "x")
        self.check("let x = 1\nrounds 3\nseen x\nlet x = 1\nend\ntell x")
        self.check("rounds 2\nif 1\nlet x = 1\nend\nseen x\nend\nlet y = 1\ntell y", NoName, "x")

    def test_behind_a_part(self):
        self.check("part f(x)\nlet y = x\ngive y\ncall z = f(1)\ntell y", NoName, "y")
        self.check("part f(x)\nlet y = x\ngive y\ncall z = f(1)\nlet w = x\ntell w", NoName, "x")
        self.check("part f(x)\ngive x\npart g(y)\ngive x\nlet z = 1\ntell z", NoName, "x")
        self.check("part f()\ngive z\nlet z = 1\ncall y = f()\ntell y", NoName, "z")
        self.check("part f(x)\ncall y = g(x)\ngive y\npart g(z)\ngive z\nlet z = 1\ntell z", NoName, "g")


class Calls(LookCase):
    def test_parts_ahead_alone(self):
        f = "part f(x)\ngive x\n"
        g = "part g(x)\ncall y = f(x)\ngive y\n"
        tail = "let x = 1\ncall y = g(x)\ntell y"
        self.check(f + g + tail)
        self.check(g + f + tail, NoName, "f")
        self.check(g + tail, NoName, "f")
        self.check(f + tail, NoName, "g")
        self.check("part f(x)\ncall y = f(x)\ngive y\n" + "let x = 1\ntell x", NoName, "f")

    def test_parts_that_are_not_called_are_looked_at(self):
        self.check("part f()\ncall x = h()\ngive x\nlet x = 1\ntell x", NoName, "h")
        self.check("part f()\nseen q\ngive 1\nlet x = 1\ntell x", NoName, "q")

    def test_in_blocks(self):
        for block in ("if 1\n{row}\nend", "if 1\nelse\n{row}\nend", "rounds 0\n{row}\nend", "rounds 2\n{row}\nend"):
            for row, refusal, name in [
                ("call x = h()", NoName, "h"), ("call x = f()", NoCall, "f"), ("call x = f(1)", None, None),
            ]:
                text = "part f(y)\ngive y\n" + block.replace("{row}", row) + "\nlet z = 1\ntell z"
                self.check(text, refusal, name)

    def test_too_few_and_too_many_arguments(self):
        for many in range(5):
            part = "part f(" + ", ".join("abcd"[:many]) + ")\ngive 1\n"
            for told in range(5):
                text = part + "call x = f(" + ", ".join("1234"[:told]) + ")\ntell x"
                self.check(text, *(() if many == told else (NoCall, "f")))

    def test_length_ahead_of_what_stands_in_the_arguments(self):
        self.check("part f(x)\ngive x\ncall y = f(q, r)\ntell y", NoCall, "f")
        self.check("part f(x, y)\ngive x\ncall y = f(q)\ntell y", NoCall, "f")
        self.check("part f(x)\ngive x\ncall y = g(q, r)\ntell y", NoName, "g")


class Measures(LookCase):
    def lets(self, many):
        return ["let x = 1"] * many + ["tell x"]

    def drawn(self, many):
        return ["draw x: 1 by 1/1"] * many + ["tell x"]

    def test_steps(self):
        self.check("\n".join(self.lets(400)))
        self.check("\n".join(self.lets(401)), TooMany, 400)
        self.check("let x = 1\nrounds 133\nseen 1\nend\ntell x")
        self.check("let x = 1\nlet x = 1\nrounds 133\nseen 1\nend\ntell x", TooMany, 400)
        self.check("let x = 1\nrounds 399\nend\ntell x")
        self.check("let x = 1\nrounds 400\nend\ntell x", TooMany, 400)

    def test_draws(self):
        self.check("\n".join(self.drawn(60)))
        self.check("\n".join(self.drawn(61)), TooMany, 60)
        self.check("rounds 60\ndraw x: 1 by 1/1\nend\ntell x")
        self.check("rounds 61\ndraw x: 1 by 1/1\nend\ntell x", TooMany, 60)

    def test_steps_ahead_of_draws(self):
        self.check("\n".join(["let y = 1"] * 339 + self.drawn(61)), TooMany, 60)
        self.check("\n".join(["let y = 1"] * 340 + self.drawn(61)), TooMany, 400)
        self.check("rounds 200\ndraw x: 1 by 1/1\nend\ntell x", TooMany, 60)
        self.check("rounds 201\ndraw x: 1 by 1/1\nend\ntell x", TooMany, 400)

    def test_other_refusals_ahead_of_measures(self):
        self.check("\n".join(self.lets(401)[:-1]) + "\ntell y", NoName, "y")
        self.check("\n".join(self.lets(401)[:-1]) + "\ntell x, x", Twice, "x")
        self.check("rounds 400\ndraw x: 1 by 1/2\nend\ntell x", NoShares, (1, 2))

    def test_choices_count_both_branches(self):
        half = "\n".join(["draw x: 1 by 1/1"] * 30)
        text = "if 1\n" + half + "\nelse\n" + half + "\nend\n"
        self.check(text + "tell x")
        self.check(text + "draw x: 1 by 1/1\ntell x", TooMany, 60)

    def test_parts_count_where_they_are_called(self):
        part = "part f()\nrounds 100\ndraw x: 1 by 1/1\nlet y = x\nend\ngive 1\n"
        self.check(part + "let x = 1\ntell x")
        self.check(part + "rounds 0\ncall x = f()\nend\nlet x = 1\ntell x")
        self.check(part + "call x = f()\ntell x", TooMany, 60)
        self.check(part + "call x = f()\ncall x = f()\ntell x", TooMany, 400)

    def test_calls_of_calls_are_told_soon(self):
        parts = "part f0()\ndraw x: 1 by 1/1\ngive x\n"
        for number in range(1, 6):
            parts += f"part f{number}()\n" + f"call x = f{number - 1}()\n" * 70 + "give x\n"
        self.check(parts + "let x = 1\ntell x")
        self.check(parts + "call x = f5()\ntell x", TooMany, 400)

    def test_more_than_could_be_gone_through(self):
        text = "draw x: 1 by 1/2, 2 by 1/2\n"
        for time in range(5):
            text = "rounds 400\n" + text + "end\n"
        self.check(text + "tell x", TooMany, 400)
        self.check("let x = 1\nrounds 0\n" + text[len("rounds 400\n"):] + "tell x")


class Unchanged(LookCase):
    def test_strewn_programs_are_let_by(self):
        for program in strewn(200):
            self.check(program)

    def test_the_same_again(self):
        program = filled(["t3"])
        for time in range(2):
            self.check(program, NoName, "z")
        program[1].append(("let", "z", ("num", 1)))
        self.check(program)


if __name__ == "__main__":
    unittest.main()
