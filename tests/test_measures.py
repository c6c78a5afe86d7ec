"""Steps, draws and ways of programs [14] [2]."""

import copy
import unittest

from fairdraw.looking import draws, look, steps, ways
from fairdraw.reading import read
from helper import part_of, plain_rows, strewn


def slow_given(rows):
    """The names that are given anywhere in rows."""
    found = set()
    for row in rows:
        if row[0] == "if":
            found |= slow_given(row[2]) | slow_given(row[3])
        elif row[0] == "rounds":
            found |= slow_given(row[2])
        elif row[0] != "seen":
            found.add(row[1])
    return found


def slow_measures(rows, parts):
    """Steps, draws and ways, each time of rounds and each call counted by itself."""
    sums = [0, 0, 1]
    for row in rows:
        told = (2, 0, 1) if row[0] == "seen" else (1, 0, 1)
        if row[0] == "draw":
            told = (1, 1, len(row[2]))
        if row[0] == "if":
            first = slow_measures(row[2], parts)
            second = slow_measures(row[3], parts)
            given = slow_given(row[2]) | slow_given(row[3])
            told = (3 + first[0] + second[0] + len(given), first[1] + second[1], max(first[2], second[2]))
        if row[0] == "rounds":
            told = (0, 0, 1)
            for time in range(row[1]):
                one = slow_measures(row[2], parts)
                told = (told[0] + 1 + one[0], told[1] + one[1], told[2] * one[2])
        if row[0] == "call":
            one = slow_measures(part_of(parts, row[2])[2], parts)
            told = (1 + len(row[3]) + one[0], one[1], one[2])
        sums = [sums[0] + told[0], sums[1] + told[1], sums[2] * told[2]]
    return tuple(sums)


class MeasureCase(unittest.TestCase):
    def check(self, program, *expected):
        if isinstance(program, str):
            program = read(program)
        kept = copy.deepcopy(program)
        for measure, number in zip((steps, draws, ways), expected):
            told = measure(program)
            self.assertEqual(told, number, (measure.__name__, program))
            self.assertIs(told.__class__, int)
            self.assertEqual(program, kept)


class SingleRows(MeasureCase):
    def test_let_and_seen(self):
        self.check("let x = 1\ntell x", 1, 0, 1)
        self.check("let x = 1\nseen x\ntell x", 3, 0, 1)
        self.check("let x = 1 + 2 + 3\nlet x = x\nseen 1\nseen 1\ntell x", 6, 0, 1)

    def test_draws_of_each_length(self):
        for many in range(1, 7):
            outcomes = ", ".join(f"{value} by 1/{many}" for value in range(many))
            self.check(f"draw x: {outcomes}\ntell x", 1, 1, many)
            self.check(f"draw x: {outcomes}\ndraw x: {outcomes}\ntell x", 2, 2, many * many)

    def test_no_rows(self):
        self.check(([], [], []), 0, 0, 1)


class Choices(MeasureCase):
    coin = "draw x: 0 by 1/2, 1 by 1/2\n"
    cube = "draw x: 1 by 1/3, 2 by 1/3, 3 by 1/3\n"

    def test_empty_branches(self):
        self.check("let a = 1\nif a\nend\ntell a", 4, 0, 1)

    def test_both_branches_count(self):
        self.check("if 1\n" + self.coin + "else\n" + self.cube + "end\nlet y = 1\ntell y", 3 + 2 + 1 + 1, 2, 3)
        self.check("if 1\n" + self.cube + "else\n" + self.coin + "end\nlet y = 1\ntell y", 3 + 2 + 1 + 1, 2, 3)
        self.check("if 1\n" + self.cube + "end\nlet y = 1\ntell y", 3 + 1 + 1 + 1, 1, 3)
        self.check("if 1\nelse\n" + self.cube + "end\nlet y = 1\ntell y", 3 + 1 + 1 + 1, 1, 3)
        self.check("if 1\n" + self.coin * 2 + "else\n" + self.cube + "end\ntell x", 3 + 3 + 1, 3, 4)

    def test_each_name_once(self):
        self.check("if 1\nlet x = 1\nelse\nlet x = 2\nend\ntell x", 3 + 2 + 1, 0, 1)
        self.check("if 1\nlet x = 1\nlet x = 2\nend\nlet y = 1\ntell y", 3 + 2 + 1 + 1, 0, 1)
        self.check("if 1\nlet x = 1\nelse\nlet y = 2\nend\nlet y = 1\ntell y", 3 + 2 + 2 + 1, 0, 1)
        self.check("let x = 1\nif 1\nlet x = 1\nend\ntell x", 1 + 3 + 1 + 1, 0, 1)
        self.check("let x = 1\nif 1\nseen 1\nelse\nseen 0\nend\ntell x", 1 + 3 + 4, 0, 1)

    def test_names_of_calls_and_not_of_parts(self):
        part = "part f(q)\nlet r = q\nlet s = r\ngive s\n"
        self.check(part + "let x = 1\nif 1\ncall x = f(x)\nend\ntell x", 1 + 3 + (1 + 1 + 2) + 1, 0, 1)

    def test_choices_within_choices(self):
        inner = "if 1\nlet a = 1\nelse\nlet b = 1\nend\n"
        self.check("if 1\n" + inner + "let a = 1\nend\nlet x = 1\ntell x", 3 + (3 + 2 + 2) + 1 + 2 + 1, 0, 1)

    def test_names_given_in_rounds_of_0_times(self):
        self.check("if 1\nrounds 0\nlet a = 1\nend\nend\nlet x = 1\ntell x", 3 + 0 + 1 + 1, 0, 1)
        text = "if 1\nrounds 0\n" + self.cube + "end\nelse\n" + self.coin + "end\nlet y = 1\ntell y"
        self.check(text, 3 + 1 + 1 + 1, 1, 2)


class Rounds(MeasureCase):
    coin = "draw x: 0 by 1/2, 1 by 1/2\n"

    def test_times(self):
        for times in (0, 1, 2, 3, 60):
            text = "let x = 1\nrounds " + str(times) + "\n" + self.coin + "let y = x\nseen 1\nend\ntell x"
            self.check(text, 1 + times * 5, times, 2 ** times)

    def test_without_rows(self):
        self.check("let x = 1\nrounds 399\nend\ntell x", 400, 0, 1)
        self.check("let x = 1\nrounds 0\nend\ntell x", 1, 0, 1)

    def test_rounds_within_rounds(self):
        text = "rounds 3\nrounds 4\n" + self.coin + "end\n" + self.coin + "end\ntell x"
        self.check(text, 3 * (1 + 4 * 2 + 1), 15, 2 ** 15)
        self.check("let x = 1\nrounds 3\nrounds 0\n" + self.coin + "end\nend\ntell x", 1 + 3, 0, 1)
        self.check("let x = 1\nrounds 0\nrounds 3\n" + self.coin + "end\nend\ntell x", 1, 0, 1)

    def test_rounds_and_choices(self):
        text = "rounds 4\nif 1\n" + self.coin + "else\nlet x = 1\nend\nend\ntell x"
        self.check(text, 4 * (1 + 3 + 2 + 1), 4, 16)


class Calls(MeasureCase):
    coin = "draw x: 0 by 1/2, 1 by 1/2\n"

    def test_arguments(self):
        for many in range(5):
            part = "part f(" + ", ".join("abcd"[:many]) + ")\ngive 1\n"
            self.check(part + "call x = f(" + ", ".join("1234"[:many]) + ")\ntell x", 1 + many, 0, 1)

    def test_parts_that_call_parts(self):
        parts = "part f()\n" + self.coin + "give x\npart g(y)\ncall a = f()\ncall b = f()\nseen a\ngive b\n"
        self.check(parts + "call x = f()\ntell x", 2, 1, 2)
        self.check(parts + "call x = g(1)\ntell x", 2 + 2 * 2 + 2, 2, 4)
        self.check(parts + "call x = g(1)\ncall y = f()\ncall x = g(y)\ntell x", 8 + 2 + 8, 5, 32)
        self.check(parts + "rounds 3\ncall x = g(1)\nend\ntell x", 3 * 9, 6, 64)
        self.check(parts + "if 1\ncall x = g(1)\nelse\ncall x = f()\nend\ntell x", 3 + 8 + 2 + 1, 3, 4)

    def test_parts_that_no_row_calls(self):
        parts = "part f()\n" + self.coin * 3 + "give x\npart g()\ncall y = f()\ngive y\n"
        self.check(parts + "let x = 1\ntell x", 1, 0, 1)
        self.check(parts + "rounds 0\ncall x = g()\nend\nlet x = 1\ntell x", 1, 0, 1)

    def test_a_name_given_as_a_part_s(self):
        self.check("part x()\n" + self.coin + "give x\ncall x = x()\ntell x", 2, 1, 2)


class Great(MeasureCase):
    def deep(self, rows, many=5):
        """Rows within so many rounds of 400 times."""
        for time in range(many):
            rows = "rounds 400\n" + rows + "end\n"
        return rows

    def test_steps_and_draws_past_all_walking(self):
        text = self.deep("draw x: 0 by 1/2, 1 by 1/2\n")
        many = 400 ** 5
        expected = 1
        for time in range(5):
            expected = 400 * (1 + expected)
        self.check(text + "tell x", expected, many)
        parts = "part f0()\n" + text + "give x\n"
        for number in range(1, 4):
            parts += f"part f{number}()\n" + self.deep(f"call x = f{number - 1}()\n") + "give x\n"
        program = read(parts + "call x = f3()\ntell x")
        self.assertEqual(draws(program), many ** 4)
        self.assertGreater(steps(program), many ** 4)

    def test_many_calls_of_many_calls(self):
        parts = "part f0()\ndraw x: 0 by 1/2, 1 by 1/2\ngive x\n"
        expected = 1
        for number in range(1, 6):
            parts += f"part f{number}()\n" + f"call x = f{number - 1}()\n" * 70 + "give x\n"
            expected = 70 * (1 + expected)
        self.check(parts + "call x = f5()\ntell x", 1 + expected, 70 ** 5)
        self.check(parts + "let x = 1\ntell x", 1, 0, 1)

    def test_ways_that_need_not_be_reckoned(self):
        coin = "draw y: 0 by 1/2, 1 by 1/2\n"
        part = "part f()\n" + self.deep("draw x: 0 by 1/2, 1 by 1/2\n") + "give x\n"
        never = "rounds 0\n" + self.deep("draw x: 0 by 1/2, 1 by 1/2\n", 3) + "end\n"
        for program in (
            coin + never + "tell y",
            coin + "rounds 3\n" + never + "end\ntell y",
            coin + "if y\n" + never + "end\ntell y",
            coin + "if y\nelse\n" + never + "end\ntell y",
            part + coin + "tell y",
            part + "part g()\ncall z = f()\ngive z\n" + coin + "tell y",
            part + coin + "rounds 0\ncall z = f()\nend\ntell y",
            "part f()\n" + never + "give 1\n" + coin + "call z = f()\ntell y",
            part + "part g()\nrounds 0\ncall z = f()\nend\ngive 1\n" + coin + "call z = g()\ntell y",
        ):
            with self.subTest(program=program):
                self.assertIsNone(look(read(program)))
                self.assertEqual(ways(read(program)), 2)
                self.assertEqual(draws(read(program)), 1)

    def test_sixty_draws_of_six(self):
        six = ", ".join(f"{value} by 1/6" for value in range(6))
        self.check(f"rounds 60\ndraw x: {six}\nend\ntell x", 120, 60, 6 ** 60)
        self.check(f"draw x: {six}\n" * 60 + "tell x", 60, 60, 6 ** 60)

    def test_sheets_of_more_than_400_steps(self):
        rows = [("draw", f"d{number}", [(0, (1, 2)), (1, (1, 2))]) for number in range(60)]
        rows += [("seen", ("name", "d0")) for number in range(340)]
        self.check(([], rows, ["d0"]), 60 + 680, 60, 2 ** 60)


class Strewn(MeasureCase):
    def test_as_counted_one_by_one(self):
        for program in strewn(300):
            with self.subTest(program=program):
                self.check(program, *slow_measures(program[1], program[0]))

    def test_no_walk_has_more_ways(self):
        for program in strewn(300):
            with self.subTest(program=program):
                self.assertLessEqual(len(plain_rows(program[1], {}, program[0])), ways(program))


if __name__ == "__main__":
    unittest.main()
