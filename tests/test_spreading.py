"""Sheets, and programs spread to them [15] [16] [2]."""

import copy
import itertools
import unittest

from fairdraw.looking import draws, look, steps
from fairdraw.reading import read
from fairdraw.spreading import is_sheet, spread
from fairdraw.writing import write
from helper import plain_shares, strewn

COIN = "draw {x}: 0 by 1/2, 1 by 1/2"


def coin(name):
    return COIN.replace("{x}", name)


class IsSheet(unittest.TestCase):
    def check(self, program, expected):
        if isinstance(program, str):
            program = read(program)
        kept = copy.deepcopy(program)
        self.assertIs(is_sheet(program), expected, program)
        self.assertEqual(program, kept)

    def test_sheets(self):
        self.check("let x = 1\ntell x", True)
        self.check(coin("a") + "\nlet b = a + a\nseen a < b\n" + coin("c") + "\ntell c, a", True)
        self.check("seen 1\nlet x = 1\nseen 0\ntell x", True)
        self.check(([], [], []), True)
        self.check(([], [("seen", ("num", 1))], []), True)

    def test_parts(self):
        self.check("part f()\ngive 1\nlet x = 1\ntell x", False)

    def test_other_rows(self):
        self.check("let x = 1\nif x\nend\ntell x", False)
        self.check("let x = 1\nif x\nelse\nseen 1\nend\ntell x", False)
        self.check("let x = 1\nrounds 0\nend\ntell x", False)
        self.check("let x = 1\nrounds 1\nlet y = 1\nend\ntell x", False)
        self.check("let x = 1\ncall y = f()\ntell x", False)
        self.check("call x = f()\ntell x", False)

    def test_a_name_given_twice(self):
        self.check("let x = 1\nlet x = 2\ntell x", False)
        self.check("let x = 1\nlet y = 2\n" + coin("x") + "\ntell y", False)
        self.check(coin("x") + "\nlet x = 2\ntell x", False)
        self.check(coin("x") + "\n" + coin("x") + "\ntell x", False)
        self.check("let x = 1\nlet xx = 2\nlet x1 = 2\ntell x", True)

    def test_a_name_that_no_row_ahead_gives(self):
        self.check("let x = y\ntell x", False)
        self.check("let x = y\nlet y = 1\ntell x", False)
        self.check("let x = 1\nseen y\nlet y = 1\ntell x", False)
        self.check("let x = 1\nseen 1 + x + y\ntell x", False)
        self.check("let x = 1\nlet y = pick(x, x, z)\ntell x", False)
        self.check("let x = 1\nlet y = pick(x, x, x)\ntell x", True)

    def test_a_name_read_by_its_own_row(self):
        self.check("let x = x\ntell x", False)
        self.check("let x = 1 - (2 + x)\ntell x", False)

    def test_a_told_name_that_no_row_gives(self):
        self.check("let x = 1\ntell y", False)
        self.check("let x = 1\ntell x, y", False)
        self.check("let x = 1\ntell y, x", False)

    def test_nothing_else_is_asked(self):
        self.check("let x = 1\ntell x, x", True)
        self.check("draw x: 1 by 1/2\ntell x", True)
        self.check("draw x: 1 by 1/2, 1 by 1/2\ntell x", True)
        self.check("seen 0\nlet x = 1\ntell x", True)
        self.check("\n".join(coin(f"x{number}") for number in range(61)) + "\ntell x0", True)

    def test_any_number_of_steps(self):
        rows = ["let x = 1"] + ["seen x"] * 399
        self.check("\n".join(rows) + "\ntell x", True)
        rows = [("let", f"x{number}", ("num", number)) for number in range(1000)]
        self.check(([], rows, ["x999", "x0"]), True)
        self.check(([], rows + rows[:1], ["x999", "x0"]), False)


class SpreadCase(unittest.TestCase):
    def check(self, text, *expected):
        """The text's program is spread to the sheet of the texts of rows that are expected."""
        program = read(text)
        look(program)
        kept = copy.deepcopy(program)
        sheet = spread(program)
        self.assertEqual(write(sheet), "\n".join(expected))
        self.assertEqual(sheet, read("\n".join(expected)))
        self.assertEqual(program, kept)
        self.check_sheet(program, sheet)

    def check_sheet(self, program, sheet):
        self.assertEqual([part.__class__ for part in (sheet,) + sheet], [tuple, list, list, list])
        self.assertTrue(is_sheet(sheet))
        self.assertEqual(sheet[0], [])
        self.assertEqual(len([row for row in sheet[1] if row[0] == "draw"]), draws(program))
        self.assertLessEqual(len(sheet[1]), steps(program))
        given = [row[1] for row in sheet[1] if row[0] != "seen"]
        self.assertEqual(given, [f"v{number}" for number in range(len(given))])


class SingleRows(SpreadCase):
    def test_draw_and_let(self):
        self.check("draw x: 5 by 1/1\ntell x", "draw v0: 5 by 1/1", "tell v0")
        self.check(
            "draw x: -2 by 1/3, 1 by 2/3\nlet y = x + 1\n" + coin("z") + "\nlet w = z - y - x\ntell w, x",
            "draw v0: -2 by 1/3, 1 by 2/3", "let v1 = v0 + 1", coin("v2"), "let v3 = v2 - v1 - v0", "tell v3, v0",
        )

    def test_outcomes_stay_in_their_order(self):
        outcomes = "3 by 1/6, -1 by 1/2, 2 by 1/6, 0 by 1/6"
        self.check(f"draw x: {outcomes}\ntell x", f"draw v0: {outcomes}", "tell v0")

    def test_seen(self):
        self.check("let x = 1\nseen x = x\nseen 2\ntell x", "let v0 = 1", "seen v0 = v0", "seen 2", "tell v0")

    def test_given_again(self):
        self.check(
            coin("x") + "\nlet x = x + x\nlet y = x\n" + coin("x") + "\nseen x < y\ntell x, y",
            coin("v0"), "let v1 = v0 + v0", "let v2 = v1", coin("v3"), "seen v3 < v2", "tell v3, v2",
        )

    def test_names_like_those_of_values(self):
        self.check(
            coin("v1") + "\nlet v0 = v1\nlet v1 = v0 - v1\ntell v0, v1",
            coin("v0"), "let v1 = v0", "let v2 = v1 - v0", "tell v1, v2",
        )
        self.check("let v7 = 1\nlet v6 = v7\nif v6\nlet v7 = 2\nend\ntell v7",
                   "let v0 = 1", "let v1 = v0", "let v2 = v1", "let v3 = 2", "let v4 = not v2",
                   "let v5 = pick(v2, v3, v0)", "tell v5")


class Choices(SpreadCase):
    def test_both_branches(self):
        self.check(
            coin("a") + "\nif a = 1\nlet x = a\nelse\n" + coin("x") + "\nend\ntell x",
            coin("v0"), "let v1 = v0 = 1", "let v2 = v0", "let v3 = not v1", coin("v4"),
            "let v5 = pick(v1, v2, v4)", "tell v5",
        )

    def test_no_second_rows(self):
        self.check(
            coin("a") + "\nlet x = 7\nif a\nlet x = x + 1\nend\ntell x",
            coin("v0"), "let v1 = 7", "let v2 = v0", "let v3 = v1 + 1", "let v4 = not v2",
            "let v5 = pick(v2, v3, v1)", "tell v5",
        )

    def test_no_first_rows(self):
        self.check(
            coin("a") + "\nif a\nelse\nlet a = 5\nend\ntell a",
            coin("v0"), "let v1 = v0", "let v2 = not v1", "let v3 = 5", "let v4 = pick(v1, v0, v3)", "tell v4",
        )

    def test_no_rows(self):
        self.check("let a = 1\nif a\nend\ntell a", "let v0 = 1", "let v1 = v0", "let v2 = not v1", "tell v0")

    def test_seen_in_branches(self):
        self.check(
            coin("a") + "\nif 1\nseen a\nelse\nseen a + 1\nseen 2\nend\nseen a\ntell a",
            coin("v0"), "let v1 = 1", "let v2 = v0", "seen not v1 or v2", "let v3 = not v1",
            "let v4 = v0 + 1", "seen not v3 or v4", "let v5 = 2", "seen not v3 or v5", "seen v0", "tell v0",
        )

    def test_second_rows_have_the_names_as_ahead(self):
        self.check(
            "let x = 1\nif x\nlet x = 2\nlet y = x\nelse\nlet y = x\nend\ntell y, x",
            "let v0 = 1", "let v1 = v0", "let v2 = 2", "let v3 = v2", "let v4 = not v1", "let v5 = v0",
            "let v6 = pick(v1, v2, v0)", "let v7 = pick(v1, v3, v5)", "tell v7, v6",
        )

    def test_picks_sorted_by_names_and_for_unlike_values_alone(self):
        self.check(
            "let c = 1\nlet b = 2\nlet ab = 3\nlet a1 = 4\nif c\n"
            "let c = 5\nlet b = 6\nlet a = 7\nlet z = 8\nelse\n"
            "let a = 9\nlet ab = 10\nlet y = 11\nend\nlet q = a + a1 + ab + b + c\ntell q",
            "let v0 = 1", "let v1 = 2", "let v2 = 3", "let v3 = 4", "let v4 = v0",
            "let v5 = 5", "let v6 = 6", "let v7 = 7", "let v8 = 8", "let v9 = not v4",
            "let v10 = 9", "let v11 = 10", "let v12 = 11",
            "let v13 = pick(v4, v7, v10)", "let v14 = pick(v4, v2, v11)",
            "let v15 = pick(v4, v6, v1)", "let v16 = pick(v4, v5, v0)",
            "let v17 = v13 + v3 + v14 + v15 + v16", "tell v17",
        )

    def test_ten_names_are_sorted_as_names_and_not_by_when_they_were_given(self):
        names = ["j", "a", "i", "b", "h", "c", "g", "d", "f", "e"]
        lets = "".join(f"let {name} = 1\n" for name in names)
        rows = [row[2] for row in spread(read("if 1\n" + lets + "else\n" + lets + "end\ntell a"))[1]]
        # v0 is the choice, v1 to v10 the first lets, v11 the second guard
        places = sorted(range(10), key=lambda place: names[place])
        expected = [
            ("pick", ("name", "v0"), ("name", f"v{1 + place}"), ("name", f"v{12 + place}")) for place in places
        ]
        self.assertEqual(rows[-10:], expected)

    def test_known_names_that_stand_for_the_same_value(self):
        self.check(
            coin("a") + "\n" + coin("b") + "\nif a\nseen b\nend\nlet c = a + b\ntell c",
            coin("v0"), coin("v1"), "let v2 = v0", "let v3 = v1", "seen not v2 or v3", "let v4 = not v2",
            "let v5 = v0 + v1", "tell v5",
        )

    def test_a_name_that_is_forgotten_and_given_again(self):
        self.check(
            "if 1\nlet x = 1\nend\nlet x = 2\ntell x",
            "let v0 = 1", "let v1 = 1", "let v2 = not v0", "let v3 = 2", "tell v3",
        )

    def test_a_name_that_is_forgotten_and_given_in_one_branch(self):
        # x is not known at the other end of the second choice, so it is not picked
        for first, second in itertools.product((0, 1), repeat=2):
            rows = [["if 1", "let x = 1", "else", "end"], ["if 1", "else", "let x = 1", "end"]][first]
            more = [["if 2", "let x = 3", "else", "end"], ["if 2", "else", "let x = 3", "end"]][second]
            laid = [["let v1 = 1", "let v2 = not v0"], ["let v1 = not v0", "let v2 = 1"]][first]
            more_laid = [["let v4 = 3", "let v5 = not v3"], ["let v4 = not v3", "let v5 = 3"]][second]
            self.check(
                "\n".join(rows + more + ["let y = 4", "tell y"]),
                "let v0 = 1", *laid, "let v3 = 2", *more_laid, "let v6 = 4", "tell v6",
            )


class ChoicesWithinChoices(SpreadCase):
    def test_in_the_first_rows(self):
        self.check(
            coin("a") + "\nif a\nif a = 1\nseen a\nlet x = 1\nelse\nseen 2\nlet x = 2\nend\n"
            "else\nlet x = 3\nend\ntell x",
            coin("v0"), "let v1 = v0",
            "let v2 = v0 = 1", "let v3 = v1 and v2", "let v4 = v0", "seen not v3 or v4", "let v5 = 1",
            "let v6 = v1 and not v2", "let v7 = 2", "seen not v6 or v7", "let v8 = 2", "let v9 = pick(v2, v5, v8)",
            "let v10 = not v1", "let v11 = 3", "let v12 = pick(v1, v9, v11)", "tell v12",
        )

    def test_in_the_second_rows(self):
        self.check(
            coin("a") + "\nif a\nlet x = 3\nelse\nif a = 1\nseen a\nlet x = 1\nelse\nlet x = 2\nend\nend\ntell x",
            coin("v0"), "let v1 = v0", "let v2 = 3", "let v3 = not v1",
            "let v4 = v0 = 1", "let v5 = v3 and v4", "let v6 = v0", "seen not v5 or v6", "let v7 = 1",
            "let v8 = v3 and not v4", "let v9 = 2", "let v10 = pick(v4, v7, v9)",
            "let v11 = pick(v1, v2, v10)", "tell v11",
        )

    def test_without_second_rows(self):
        self.check(
            "let x = 0\nif 1\nif 2\nif 3\nlet x = 4\nend\nend\nend\ntell x",
            "let v0 = 0", "let v1 = 1", "let v2 = 2", "let v3 = v1 and v2", "let v4 = 3", "let v5 = v3 and v4",
            "let v6 = 4", "let v7 = v3 and not v4", "let v8 = pick(v4, v6, v0)", "let v9 = v1 and not v2",
            "let v10 = pick(v2, v8, v0)", "let v11 = not v1", "let v12 = pick(v1, v10, v0)", "tell v12",
        )

    def test_behind_another_choice_no_guard_is_left(self):
        self.check(
            "let x = 1\nif x\nend\nseen x\nif 2\nseen 3\nend\ntell x",
            "let v0 = 1", "let v1 = v0", "let v2 = not v1", "seen v0",
            "let v3 = 2", "let v4 = 3", "seen not v3 or v4", "let v5 = not v3", "tell v0",
        )


class Rounds(SpreadCase):
    def test_times(self):
        self.check("let x = 1\nrounds 0\nlet x = 2\nlet y = 1\nend\ntell x", "let v0 = 1", "tell v0")
        self.check("rounds 1\nlet x = 2\nend\ntell x", "let v0 = 2", "tell v0")
        self.check(
            "let x = 1\nrounds 3\nlet x = x + 1\nend\ntell x",
            "let v0 = 1", "let v1 = v0 + 1", "let v2 = v1 + 1", "let v3 = v2 + 1", "tell v3",
        )

    def test_each_time_draws(self):
        self.check(
            "let x = 0\nrounds 2\n" + coin("y") + "\nlet x = x + y\nend\ntell x, y",
            "let v0 = 0", coin("v1"), "let v2 = v0 + v1", coin("v3"), "let v4 = v2 + v3", "tell v4, v3",
        )

    def test_rounds_within_rounds(self):
        self.check(
            "let x = 0\nrounds 2\nrounds 2\nlet x = x + 1\nend\nseen x\nend\ntell x",
            "let v0 = 0", "let v1 = v0 + 1", "let v2 = v1 + 1", "seen v2",
            "let v3 = v2 + 1", "let v4 = v3 + 1", "seen v4", "tell v4",
        )

    def test_choices_in_rounds(self):
        self.check(
            "let x = 5\nrounds 2\nif x\nlet x = x - 1\nend\nend\ntell x",
            "let v0 = 5", "let v1 = v0", "let v2 = v0 - 1", "let v3 = not v1", "let v4 = pick(v1, v2, v0)",
            "let v5 = v4", "let v6 = v4 - 1", "let v7 = not v5", "let v8 = pick(v5, v6, v4)", "tell v8",
        )

    def test_rounds_under_a_guard(self):
        self.check(
            "let x = 1\nif 0\nrounds 2\nseen x\nlet x = x + 1\nend\nend\ntell x",
            "let v0 = 1", "let v1 = 0", "let v2 = v0", "seen not v1 or v2", "let v3 = v0 + 1",
            "let v4 = v3", "seen not v1 or v4", "let v5 = v3 + 1", "let v6 = not v1",
            "let v7 = pick(v1, v5, v0)", "tell v7",
        )

    def test_rounds_of_0_times_in_a_branch(self):
        self.check(
            "let x = 1\nif x\nrounds 0\nlet x = 2\nend\nelse\nlet y = 1\nend\ntell x",
            "let v0 = 1", "let v1 = v0", "let v2 = not v1", "let v3 = 1", "tell v0",
        )


class Calls(SpreadCase):
    def test_arguments_rows_and_result(self):
        self.check(
            "part f(a, b)\nlet c = a - b\nlet a = c + c\ngive a + b\n"
            + coin("b") + "\nlet a = 3\ncall c = f(a + 1, b)\ntell c, a, b",
            coin("v0"), "let v1 = 3", "let v2 = v1 + 1", "let v3 = v0", "let v4 = v2 - v3", "let v5 = v4 + v4",
            "let v6 = v5 + v3", "tell v6, v1, v0",
        )

    def test_no_arguments_and_no_rows(self):
        self.check("part f()\ngive 1\ncall x = f()\ntell x", "let v0 = 1", "tell v0")
        self.check("part f(x)\ngive x\ncall x = f(2)\ncall x = f(x)\ntell x",
                   "let v0 = 2", "let v1 = v0", "let v2 = v1", "let v3 = v2", "tell v3")

    def test_arguments_are_told_ahead_of_parameters(self):
        # the second argument reads the caller's a, not the parameter
        self.check(
            "part f(a, b)\ngive a - b\nlet a = 1\nlet b = 2\ncall a = f(b, a)\ntell a, b",
            "let v0 = 1", "let v1 = 2", "let v2 = v1", "let v3 = v0", "let v4 = v2 - v3", "tell v4, v1",
        )

    def test_seen_in_a_part(self):
        part = "part f(a)\nseen a\ngive a + 1\n"
        self.check(
            part + coin("x") + "\ncall y = f(x)\ntell y",
            coin("v0"), "let v1 = v0", "seen v1", "let v2 = v1 + 1", "tell v2",
        )
        self.check(
            part + coin("x") + "\nif x = 1\ncall x = f(x)\nend\ntell x",
            coin("v0"), "let v1 = v0 = 1", "let v2 = v0", "let v3 = v2", "seen not v1 or v3", "let v4 = v2 + 1",
            "let v5 = not v1", "let v6 = pick(v1, v4, v0)", "tell v6",
        )
        self.check(
            part + coin("x") + "\nif x = 1\nelse\ncall x = f(x)\nend\ntell x",
            coin("v0"), "let v1 = v0 = 1", "let v2 = not v1", "let v3 = v0", "let v4 = v3", "seen not v2 or v4",
            "let v5 = v3 + 1", "let v6 = pick(v1, v0, v5)", "tell v6",
        )

    def test_a_choice_in_a_part_under_a_guard(self):
        self.check(
            "part f(a)\nif a\nseen a\nend\ngive a\n" + coin("x") + "\nif x\ncall y = f(x)\nend\ntell x",
            coin("v0"), "let v1 = v0", "let v2 = v0", "let v3 = v2", "let v4 = v1 and v3", "let v5 = v2",
            "seen not v4 or v5", "let v6 = v1 and not v3", "let v7 = v2", "let v8 = not v1", "tell v0",
        )

    def test_choices_and_rounds_in_a_part(self):
        self.check(
            "part f(a)\nrounds 2\nif a\nlet a = a + 1\nend\nend\ngive a\ncall x = f(4)\ntell x",
            "let v0 = 4", "let v1 = v0", "let v2 = v0 + 1", "let v3 = not v1", "let v4 = pick(v1, v2, v0)",
            "let v5 = v4", "let v6 = v4 + 1", "let v7 = not v5", "let v8 = pick(v5, v6, v4)",
            "let v9 = v8", "tell v9",
        )

    def test_parts_that_call_parts(self):
        self.check(
            "part f(a)\n" + coin("b") + "\ngive a + b\npart g(a)\ncall a = f(a)\ncall b = f(a)\ngive b\n"
            "part never()\ngive 1\nlet b = 1\ncall b = g(b)\ntell b",
            "let v0 = 1", "let v1 = v0", "let v2 = v1", coin("v3"), "let v4 = v2 + v3", "let v5 = v4",
            coin("v6"), "let v7 = v5 + v6", "let v8 = v7", "tell v8",
        )

    def test_calls_in_rounds(self):
        self.check(
            "part f(a)\nlet a = a + 1\ngive a\nlet x = 0\nrounds 2\ncall x = f(x)\nend\ntell x",
            "let v0 = 0", "let v1 = v0", "let v2 = v1 + 1", "let v3 = v2",
            "let v4 = v3", "let v5 = v4 + 1", "let v6 = v5", "tell v6",
        )


class Whole(SpreadCase):
    def test_told_names_in_their_order(self):
        self.check(
            "let a = 1\nlet b = 2\nlet c = 3\ntell c, a, b",
            "let v0 = 1", "let v1 = 2", "let v2 = 3", "tell v2, v0, v1",
        )

    def test_four_hundred_rows(self):
        program = read("let x = 0\n" + "let x = x + 1\n" * 399 + "tell x")
        sheet = spread(program)
        self.assertEqual(len(sheet[1]), 400)
        self.assertEqual(sheet[1][399], ("let", "v399", ("+", ("name", "v398"), ("num", 1))))
        self.assertEqual(sheet[2], ["v399"])

    def test_how_many_rows(self):
        program = read(coin("x") + "\nlet y = x\nseen y\ntell y")
        self.assertEqual((len(spread(program)[1]), steps(program)), (3, 4))
        # under a guard a seen has both of its rows; the outer `if`, under none, has one row less than its steps
        program = read("let x = 1\nif 1\nif 1\nseen 1\nlet x = 2\nend\nend\ntell x")
        self.assertEqual((len(spread(program)[1]), steps(program)), (11, 12))

    def test_spread_again(self):
        sheet = read(coin("v0") + "\nlet v1 = v0\nseen v1\ntell v1")
        self.assertEqual(spread(sheet), sheet)

    def test_numbers_of_sixty_figures(self):
        great = 10 ** 60 - 1
        program = ([], [("draw", "x", [(-great, (1, 1))]), ("let", "y", ("-", ("name", "x"), ("num", great)))], ["y"])
        rows = [("draw", "v0", [(-great, (1, 1))]), ("let", "v1", ("-", ("name", "v0"), ("num", great)))]
        expected = ([], rows, ["v1"])
        self.assertEqual(spread(program), expected)

    def test_strewn_programs_tell_the_same(self):
        for program in strewn(400):
            with self.subTest(program=program):
                kept = copy.deepcopy(program)
                sheet = spread(program)
                self.assertEqual(program, kept)
                self.check_sheet(program, sheet)
                self.assertEqual(plain_shares(sheet), plain_shares(program))


class NothingShared(unittest.TestCase):
    text = "part f(a)\n" + coin("b") + "\ngive a + b\nrounds 2\n" + coin("x") + "\ncall y = f(x)\nend\ntell x, y"

    def spoil(self, program):
        """Changes every list of a program."""
        for row in program[1]:
            if row[0] == "draw":
                row[2].append((9, (1, 9)))
            if row[0] == "rounds":
                self.spoil(([], row[2], []))
        for part in program[0]:
            self.spoil(([], part[2], part[1]))
        for some in program:
            some.append("spoilt")

    def test_what_was_told_stays_when_what_was_handed_in_is_changed(self):
        program = read(self.text)
        sheet = spread(program)
        kept = copy.deepcopy(sheet)
        self.spoil(program)
        self.assertEqual(sheet, kept)

    def test_what_was_handed_in_stays_when_what_was_told_is_changed(self):
        program = read(self.text)
        kept = copy.deepcopy(program)
        sheet = spread(program)
        expected = copy.deepcopy(sheet)
        self.spoil(sheet)
        self.assertEqual(program, kept)
        self.assertEqual(spread(program), expected)

    def test_no_two_draws_share_their_outcomes(self):
        sheet = spread(read(self.text))
        outcomes = [row[2] for row in sheet[1] if row[0] == "draw"]
        outcomes[0].clear()
        self.assertEqual([len(some) for some in outcomes], [0, 2, 2, 2])


if __name__ == "__main__":
    unittest.main()
