"""The desk: its rows, their answers and refusals [40] [2] [3]."""

import itertools
import unittest

from fairdraw.desk import Desk
from fairdraw.errors import CannotBe, NoName, NoRow, NoText, TooMany
from fairdraw.looking import look
from fairdraw.reading import read
from fairdraw.spreading import spread
from fairdraw.writing import write
from helper import answered, coins, even, plain_rows, plain_shares, plain_slice, strewn

PAIR = coins("a", "b") + "seen a or b\nlet c = a + b\ntell c, a, b"
PART = "part f(x)\n" + coins("y") + "give x + y\n" + coins("a") + "call b = f(a)\nrounds 2\nlet b = b + 1\nend\ntell b"
WORDS = ["keep", "drop", "show", "sheet", "slice", "walk", "tables", "graph", "count", "free", "same", "alike"]
KEY_WORDS = "draw let seen if else end rounds part give call tell by pick and or not".split()
# a guarded seen row has one step more in the sheet
GUARDED = coins("a", "b") + "if a\n" + "seen a\n" * 140 + "end\n"


def shown(shares):
    """Told shares as the document writes them."""
    return "; ".join(
        " ".join(str(number) for number in numbers) + f" by {share[0]}/{share[1]}" for numbers, share in shares
    )


class DeskCase(unittest.TestCase):
    def setUp(self):
        self.desk = Desk()

    def keeps(self, name, text):
        self.assertEqual(self.desk.say(f"keep {name} {text}"), "ok")

    def says(self, row, answer):
        self.assertEqual(self.desk.say(row), answer)

    def kept(self):
        """All that the desk shows of the names of these tests."""
        return [(name, answered(self.desk.say, f"show {name}")) for name in ["p", "q", "r"] + WORDS]

    def refused(self, row, *expected):
        """Refused, and nothing is changed."""
        ahead = self.kept()
        self.assertEqual(answered(self.desk.say, row), expected)
        self.assertEqual(self.kept(), ahead)


class TwoKept(DeskCase):
    def setUp(self):
        DeskCase.setUp(self)
        self.keeps("p", PAIR)
        self.keeps("q", PART)


class Answers(TwoKept):
    def test_texts(self):
        for row in ("show p", "walk p", "count p", "free p a b", "alike p p", "drop p"):
            self.assertIs(self.desk.say(row).__class__, str)

    def test_keep(self):
        self.says("keep r let x = 1\ntell x", "ok")
        self.says("walk r", "1 by 1/1")

    def test_keep_with_blanks_and_line_feeds(self):
        self.says("keep r    let   x=1\n\n  \n tell x  \n\n", "ok")
        self.says("show r", "let x = 1\ntell x")
        self.says("keep r \n\nlet x = 2\ntell x", "ok")
        self.says("show r", "let x = 2\ntell x")
        # rows of blanks ahead count in the refusal's number
        self.refused("keep r \n\nlet x = 2\ntel x", "NoText", 4)
        self.refused("keep r   let x = 2\ntel x", "NoText", 2)

    def test_drop(self):
        self.says("drop p", "ok")
        self.refused("show p", "NoName", "p")
        self.refused("drop p", "NoName", "p")
        self.says("walk q", shown(plain_shares(read(PART))))
        self.keeps("p", PART)
        self.says("alike p q", "yes")

    def test_show(self):
        self.says("show p", write(read(PAIR)))
        self.says("show q", PART.replace("\n\n", "\n"))
        self.keeps("r", " part f( x,y )\ngive x\n\ndraw a :1 by 2/4,- 3 by 3/6\nif (a)\nlet b=(a+1)-2\nelse\nend\n"
                        "call c=f(a,not(a))\nrounds 2\nend\n tell c , a \n")
        self.says("show r", "part f(x, y)\ngive x\ndraw a: 1 by 1/2, -3 by 1/2\nif a\nlet b = a + 1 - 2\nend\n"
                            "call c = f(a, not a)\nrounds 2\nend\ntell c, a")

    def test_what_is_shown_is_kept_again(self):
        text = self.desk.say("show q")
        self.keeps("r", text)
        self.says("show r", text)

    def test_sheet(self):
        self.says("sheet r q", "ok")
        self.says("show r", "draw v0: 0 by 1/2, 1 by 1/2\nlet v1 = v0\ndraw v2: 0 by 1/2, 1 by 1/2\nlet v3 = v1 + v2\n"
                            "let v4 = v3 + 1\nlet v5 = v4 + 1\ntell v5")
        self.says("show q", write(read(PART)))
        # a sheet is spread anew
        self.keeps("r", coins("y") + "let x = y\ntell x, y")
        self.says("sheet p r", "ok")
        self.says("show p", coins("v0") + "let v1 = v0\ntell v1, v0")

    def test_slice(self):
        text = coins("a", "b", "c") + "let d = c\nif a\nseen b\nend\nseen c\nseen 1\ntell b"
        self.keeps("r", text)
        self.says("slice p r", "ok")
        self.says("show p", coins("v0", "v1") + "let v4 = v0\nlet v5 = v1\nseen not v4 or v5\ntell v1")
        # what is sliced is the program spread, so values are numbered anew
        self.says("slice q p", "ok")
        self.says("show q", coins("v0", "v1") + "let v2 = v0\nlet v3 = v1\nseen not v2 or v3\ntell v1")
        self.says("show r", text)

    def test_runners(self):
        for row in ("walk p", "tables p", "graph p"):
            self.says(row, "1 0 1 by 1/3; 1 1 0 by 1/3; 2 1 1 by 1/3")
        for row in ("walk q", "tables q", "graph q"):
            self.says(row, "2 by 1/4; 3 by 1/2; 4 by 1/4")
        self.keeps("r", "draw a: 3 by 1/4, -2 by 3/4\ntell a")
        for row in ("walk r", "tables r", "graph r"):
            self.says(row, "-2 by 3/4; 3 by 1/4")

    def test_count(self):
        self.says("count p", "5 2 4")
        # of the program and not of its sheet
        self.says("count q", "8 2 4")
        self.says("sheet r q", "ok")
        self.says("count r", "6 2 4")
        self.keeps("r", coins("a") + "if a\n" + even("b", 3) + "seen b\nelse\n" + even("b", 5) + "end\ntell b")
        self.says("count r", "9 3 10")
        self.keeps("r", "let a = 1\ntell a")
        self.says("count r", "1 0 1")
        self.keeps("r", "rounds 60\n" + even("a", 6) + "end\ntell a")
        self.says("count r", f"120 60 {6 ** 60}")

    def test_free(self):
        self.says("free p a b", "no")
        self.says("free p c a", "no")
        self.keeps("r", coins("a", "b", "d") + "let c = 3\nlet e = a\nlet f = a + b\nseen d\ntell a, b, c, d, e, f")
        for row, answer in (
            ("a b", "yes"), ("b a", "yes"), ("a e", "no"), ("f a", "no"), ("f d", "yes"), ("c f", "yes"), ("a d", "yes"),
            ("a a", "no"), ("c c", "yes"), ("f f", "no"),
        ):
            self.says("free r " + row, answer)
        # of the values in the sheet: what is seen in a branch hangs on the branch's choice
        self.keeps("r", coins("a", "b", "c") + "if a\nseen b\nend\ntell a, b, c")
        self.says("free r a b", "no")
        self.says("free r a c", "yes")
        # and the names stand for the last values that they were given
        self.keeps("r", coins("a") + "let b = a\n" + coins("a") + "tell a, b")
        self.says("free r a b", "yes")

    def test_free_is_asked_of_what_cannot_be_too(self):
        self.keeps("r", coins("a", "b") + "seen 0\nseen a and not a\ntell a, b")
        self.says("free r a b", "yes")
        self.says("free r a a", "no")

    def test_same(self):
        self.says("same p a b", "no")
        self.says("same p c c", "yes")
        self.keeps("r", even("a", 3) + "let b = a\nlet c = a + 1 - 1\nlet d = not not a\nlet e = 1\n"
                        "seen a < 2\ntell a, b, c, d, e")
        for row, answer in (("a b", "yes"), ("c b", "yes"), ("d a", "yes"), ("a e", "no"), ("e e", "yes")):
            self.says("same r " + row, answer)
        self.keeps("r", coins("a", "b", "c") + "if a = b\nlet d = a\nelse\nlet d = b\nend\nseen a = c\ntell a, b, c, d")
        for row, answer in (("b d", "yes"), ("a d", "no"), ("a c", "yes"), ("d c", "no")):
            self.says("same r " + row, answer)

    def test_names_told_of_values_that_are_one(self):
        self.keeps("r", coins("a") + "let b = a\ntell a, b")
        self.says("same r a b", "yes")
        self.says("same r b a", "yes")
        self.says("free r a b", "no")
        # one value is in both branches
        self.keeps("r", coins("a", "c") + "if c\nlet b = a\nelse\nlet b = a\nend\ntell a, b")
        self.says("same r a b", "yes")
        self.says("free r a b", "no")

    def test_told_names_by_their_place(self):
        self.keeps("r", coins("x", "y", "z") + "let u = x + y\nseen u\ntell z, u, y, x")
        for row, answer in (("z u", "yes"), ("z y", "yes"), ("u y", "no"), ("x y", "no"), ("x z", "yes")):
            self.says("free r " + row, answer)

    def test_alike(self):
        self.says("alike p p", "yes")
        self.says("alike p q", "no")
        self.says("sheet r q", "ok")
        self.says("alike r q", "yes")
        self.says("alike q r", "yes")
        # the names don't matter, but their order does
        self.keeps("r", coins("x") + "let y = x + 1\ntell y, x")
        self.keeps("q", coins("d") + "let c = d + 1\ntell c, d")
        self.says("alike r q", "yes")
        self.keeps("q", coins("d") + "let c = d + 1\ntell d, c")
        self.says("alike r q", "no")
        # the same values, other shares
        self.keeps("r", "draw a: 0 by 1/2, 1 by 1/2\ntell a")
        self.keeps("q", "draw a: 0 by 1/3, 1 by 2/3\ntell a")
        self.says("alike r q", "no")
        self.keeps("q", "draw a: 1 by 2/4, 0 by 2/4\ntell a")
        self.says("alike r q", "yes")

    def test_other_names(self):
        self.says("keep a1b2c3d4 let x = 1\ntell x", "ok")
        self.says("walk a1b2c3d4", "1 by 1/1")


class KeptAgain(DeskCase):
    def test_by_keep(self):
        self.keeps("p", PAIR)
        self.keeps("p", PART)
        self.says("show p", write(read(PART)))

    def test_new_is_name(self):
        self.keeps("p", PART)
        self.says("sheet p p", "ok")
        self.says("show p", write(spread(read(PART))))
        self.keeps("q", coins("a", "b") + "tell b")
        self.says("slice q q", "ok")
        self.says("show q", coins("v1") + "tell v1")
        # and so on, spread anew each time
        self.says("slice q q", "ok")
        self.says("show q", coins("v0") + "tell v0")

    def test_by_sheet_and_slice(self):
        self.keeps("p", PART)
        self.keeps("q", PAIR)
        self.says("sheet q p", "ok")
        self.says("alike p q", "yes")
        self.keeps("q", PAIR)
        self.says("slice q p", "ok")
        self.says("alike p q", "yes")

    def test_what_a_sheet_was_made_of_may_go(self):
        self.keeps("p", PART)
        self.says("sheet q p", "ok")
        text = self.desk.say("show q")
        self.keeps("p", PAIR)
        self.says("show q", text)
        self.says("drop p", "ok")
        self.says("show q", text)

    def test_the_desk_s_own_words(self):
        for place, word in enumerate(WORDS):
            self.keeps(word, f"let a = {place}\nlet b = a\ntell a, b")
        for place, word in enumerate(WORDS):
            for ask in ("walk", "tables", "graph"):
                self.says(f"{ask} {word}", f"{place} {place} by 1/1")
            self.says(f"count {word}", "2 0 1")
            self.says(f"free {word} a b", "yes")
            self.says(f"same {word} b a", "yes")
        self.says("alike keep drop", "no")
        self.says("alike alike alike", "yes")
        self.says("sheet keep sheet", "ok")
        self.says("slice slice keep", "ok")
        self.says("walk slice", "3 3 by 1/1")
        self.says("drop drop", "ok")
        self.refused("show drop", "NoName", "drop")
        # told names may be such words too
        self.keeps("p", coins("free", "keep") + "tell free, keep")
        self.says("free p free keep", "yes")


class NoRows(TwoKept):
    def check(self, *rows):
        for row in rows:
            with self.subTest(row=row):
                self.refused(row, "NoRow")

    def test_another_first_word(self):
        self.check("", "p", "Show p", "SHOW p", "shows p", "sho p", "kept p", "tell p", "draw p", "table p", "let x = 1",
                   "0", "p show", "walk, p", "keep:p let x = 1\ntell x", "graphs p", "new p", "told p", "text p")

    def test_more_or_fewer_words(self):
        for word in ("drop", "show", "walk", "tables", "graph", "count"):
            self.check(word, f"{word} p q", f"{word} p p", f"{word} p a b")
        for word in ("sheet", "slice", "alike"):
            self.check(word, f"{word} p", f"{word} p q p", f"{word} p p p p")
        for word in ("free", "same"):
            self.check(word, f"{word} p", f"{word} p a", f"{word} p a b c", f"{word} a b")
        self.check("keep", "keep p", "keep nosuch")

    def test_blanks_too_many(self):
        for row in ("drop p", "show p", "walk p", "tables p", "graph p", "count p", "sheet r p", "slice r p",
                    "free p a b", "same p a b", "alike p q"):
            words = row.split(" ")
            self.check(" " + row, row + " ", row + "  ", "  " + row)
            for place in range(1, len(words)):
                self.check(" ".join(words[:place]) + "  " + " ".join(words[place:]))
        self.check(" keep r let x = 1\ntell x", "keep  r let x = 1\ntell x", "keep ", "keep  ", "keep   ", " ", "  ")

    def test_other_signs_in_the_place_of_blanks(self):
        for row in ("show p", "free p a b", "sheet r p", "keep r let x = 1\ntell x"):
            for sign in ("\n", "\t", ",", "-", ""):
                self.check(row.replace(" ", sign, 1))
        for row in ("show p", "alike p q", "free p a b"):
            for sign in ("\n", "\t", ".", ";"):
                self.check(row + sign, sign + row)
        self.check("keep r\nlet x = 1\ntell x", "keep r\tlet x = 1", "keep\nr let x = 1\ntell x")

    def test_words_that_are_no_names(self):
        for bad in KEY_WORDS + ["P", "1", "1p", "p_", "p1234567x", "abcdefghi", "p.", "p,", "(p)", "pQ"]:
            for row in ("drop X", "show X", "walk X", "tables X", "graph X", "count X", "sheet X p", "sheet r X",
                        "slice X p", "slice r X", "free X a b", "free p X b", "free p a X", "same X a b", "same p X b",
                        "same p a X", "alike X p", "alike p X", "keep X let x = 1\ntell x", "keep X "):
                self.check(row.replace("X", bad))

    def test_no_str(self):
        for thing in (None, 1, 0, True, b"show p", ["show", "p"], ("show", "p"), ["show p"], {"show": "p"}, 1.5, (), [],
                      object(), Desk, {"show p"}):
            self.check(thing)

    def test_ahead_of_no_name(self):
        self.check("free nosuch A b", "free nosuch a let", "sheet let nosuch", "sheet nosuch let", "alike nosuch B",
                   "alike B nosuch", "show nosuch ", "show nosuch x", "same p nosuch B", "same p B nosuch", "drop  nosuch",
                   "walk nosuch nosuch", "free nosuch x", "slice nosuch nosuch ")

    def test_ahead_of_reading(self):
        self.check("keep let tell", "keep Q tell", "keep  tell", "keep tell")


class NoNames(TwoKept):
    def test_programs(self):
        for word in ("drop", "show", "walk", "tables", "graph", "count"):
            self.refused(f"{word} r", "NoName", "r")
        for word in ("sheet", "slice"):
            self.refused(f"{word} p r", "NoName", "r")
            self.refused(f"{word} r r", "NoName", "r")
            self.refused(f"{word} x y", "NoName", "y")
        self.refused("free r a b", "NoName", "r")
        self.refused("same r a b", "NoName", "r")

    def test_the_first_from_the_left(self):
        self.refused("alike r p", "NoName", "r")
        self.refused("alike p r", "NoName", "r")
        self.refused("alike x r", "NoName", "x")
        self.refused("alike r x", "NoName", "r")

    def test_told_names(self):
        for word in ("free", "same"):
            self.refused(f"{word} p x b", "NoName", "x")
            self.refused(f"{word} p a x", "NoName", "x")
            self.refused(f"{word} p x y", "NoName", "x")
            self.refused(f"{word} p y x", "NoName", "y")
            self.refused(f"{word} p x x", "NoName", "x")
            # a name that is known but not told, one of a part, and the names of programs and values
            self.refused(f"{word} q a b", "NoName", "a")
            self.refused(f"{word} q b a", "NoName", "a")
            self.refused(f"{word} q b y", "NoName", "y")
            self.refused(f"{word} p p q", "NoName", "p")
            self.refused(f"{word} p a v0", "NoName", "v0")

    def test_programs_ahead_of_told_names(self):
        self.refused("free r x y", "NoName", "r")
        self.refused("same x y z", "NoName", "x")

    def test_told_names_ahead_of_what_cannot_be(self):
        self.keeps("r", coins("a") + "seen 0\ntell a")
        self.refused("same r a x", "NoName", "x")
        self.refused("same r a a", "CannotBe")

    def test_dropped(self):
        self.says("drop q", "ok")
        self.refused("alike p q", "NoName", "q")
        self.refused("sheet q q", "NoName", "q")


class NotKept(TwoKept):
    def test_no_text(self):
        self.refused("keep p ", "NoText", 2)
        self.refused("keep r ", "NoText", 2)
        self.refused("keep p  ", "NoText", 2)
        self.refused("keep p p", "NoText", 1)
        self.refused("keep p let x = 1", "NoText", 2)
        self.refused("keep r let x = 1\nend\ntell x", "NoText", 2)
        self.refused("keep p tell", "NoText", 1)
        self.refused("keep p let x = 1\ntell x\ntell x", "NoText", 3)
        self.refused("keep p \ttell x", "NoText", 1)
        self.refused("keep r " + "\n" * 500 + "tell x", "NoText", 501)

    def test_by_the_looker(self):
        for name in ("p", "r"):
            self.refused(f"keep {name} let x = 1\ntell x, x", "Twice", "x")
            self.refused(f"keep {name} draw x: -3 by 1/2, -3 by 1/2\ntell x", "Twice", -3)
            self.refused(f"keep {name} draw x: 1 by 1/2, 2 by 1/4\ntell x", "NoShares", (3, 4))
            self.refused(f"keep {name} tell x", "NoName", "x")
            self.refused(f"keep {name} let x = p\ntell x", "NoName", "p")
            self.refused(f"keep {name} part f(x)\ngive x\ncall y = f()\ntell y", "NoCall", "f")
            self.refused(f"keep {name} rounds 201\nlet x = 1\nend\ntell x", "TooMany", 400)
            self.refused(f"keep {name} rounds 61\n{coins('x')}end\ntell x", "TooMany", 60)
            # reading is ahead of it
            self.refused(f"keep {name} let x = y\ntell", "NoText", 2)

    def test_what_can_be_just_kept(self):
        self.keeps("r", "rounds 200\nlet x = 1\nend\ntell x")
        self.says("count r", "400 0 1")
        self.keeps("r", "rounds 60\n" + coins("x") + "end\ntell x")

    def test_sheets_of_too_many_steps(self):
        self.keeps("p", GUARDED + "tell a, b")
        self.says("count p", "285 2 4")
        for name in ("p", "q", "r"):
            self.refused(f"sheet {name} p", "TooMany", 400)
            self.refused(f"slice {name} p", "TooMany", 400)
        for row in ("walk p", "tables p", "graph p"):
            self.says(row, "0 0 by 1/4; 0 1 by 1/4; 1 0 by 1/4; 1 1 by 1/4")
        self.says("same p a b", "no")
        self.says("free p a b", "yes")

    def test_sheets_of_just_so_many_steps(self):
        # two draws, the choice, the other guard, and three steps for each row seen
        text = GUARDED.replace("seen a\n" * 140, "seen a\n" * 132)
        self.keeps("p", text + "tell a")
        self.says("sheet q p", "ok")
        self.says("count q", "400 2 4")
        self.keeps("p", text + "let c = 1\ntell a")
        self.refused("sheet q p", "TooMany", 400)
        self.says("slice q p", "ok")
        # neither the draw nor the other guard nor the let is in it
        self.says("count q", "398 1 2")

    def test_slices_of_sheets_of_too_many_steps(self):
        self.keeps("p", GUARDED + "let c = b\ntell c")
        self.refused("sheet q p", "TooMany", 400)
        self.says("slice q p", "ok")
        self.says("walk q", "0 by 1/2; 1 by 1/2")
        self.says("count q", "2 1 2")

    def test_the_desk_s_most_is_not_the_looker_s(self):
        self.desk = Desk(1)
        self.keeps("p", "rounds 60\n" + even("a", 6) + "end\nlet a = 1\ntell a")
        self.says("sheet q p", "ok")
        self.says("slice r p", "ok")
        self.says("count p", f"121 60 {6 ** 60}")
        self.refused("walk p", "TooMany", 1)
        self.says("walk r", "1 by 1/1")


class Refusals(DeskCase):
    def test_classes(self):
        self.keeps("p", coins("a", "b") + "seen a < b\nseen b < a\ntell a, b")
        for row, kind in (("show", NoRow), ("show x", NoName), ("keep p ", NoText), ("walk p", CannotBe)):
            self.assertRaises(kind, self.desk.say, row)
        self.assertRaises(TooMany, Desk(1).say, "keep x rounds 300\nlet a = 1\nend\ntell a")

    def test_cannot_be(self):
        self.keeps("p", coins("a", "b") + "seen a < b\nseen b < a\ntell a, b")
        self.keeps("q", coins("a", "b") + "tell a, b")
        for row in ("walk p", "tables p", "graph p", "same p a b", "same p a a", "alike p p", "alike p q", "alike q p"):
            self.refused(row, "CannotBe")
        self.says("free p a b", "no")
        self.says("walk q", "0 0 by 1/4; 0 1 by 1/4; 1 0 by 1/4; 1 1 by 1/4")

    def test_what_cannot_be_is_kept_and_sliced(self):
        self.keeps("p", coins("a") + "seen 0\ntell a")
        self.says("sheet q p", "ok")
        self.refused("walk q", "CannotBe")
        self.says("slice q p", "ok")
        self.says("walk q", "0 by 1/2; 1 by 1/2")

    def test_the_desk_s_most(self):
        text = coins("a", "b", "c") + "let s = a + b + c\ntell s"
        answer = "0 by 1/8; 1 by 3/8; 2 by 3/8; 3 by 1/8"
        for row, most in (("walk p", 8), ("tables p", 8), ("graph p", 10)):
            for many in (most - 1, most, most + 1):
                self.desk = Desk(many)
                self.keeps("p", text)
                if many < most:
                    self.refused(row, "TooMany", many)
                else:
                    self.says(row, answer)

    def test_the_desk_s_most_of_same(self):
        # each draw has seven nodes, their comparison nine
        for many in (6, 7, 8, 9, 10):
            self.desk = Desk(many)
            self.keeps("p", even("a", 6) + even("b", 6) + "tell a, b")
            if many < 9:
                self.refused("same p a b", "TooMany", many)
            else:
                self.says("same p a b", "no")
            self.says("free p a b", "yes")

    def test_the_desk_s_most_of_alike(self):
        self.desk = Desk(4)
        self.keeps("p", coins("a", "b") + "tell a, b")
        self.keeps("q", coins("a", "b", "c") + "tell a, b")
        self.says("alike p p", "yes")
        self.refused("alike p q", "TooMany", 4)
        self.refused("alike q p", "TooMany", 4)
        # the first one is asked first
        self.keeps("r", "seen 0\n" + coins("a") + "tell a")
        self.refused("alike r q", "CannotBe")
        self.refused("alike q r", "TooMany", 4)
        self.refused("alike r p", "CannotBe")
        self.refused("alike p r", "CannotBe")

    def test_alike_is_asked_of_the_walker(self):
        # the tables and the graph need more than the walk
        self.desk = Desk(8)
        self.keeps("p", "let s = 0\nrounds 4\n" + coins("a") + "let s = s + a\nend\ntell s")
        self.says("alike p p", "yes")
        self.refused("graph p", "TooMany", 8)
        # and less
        self.desk = Desk(10)
        self.keeps("p", coins("a", "b", "c", "d") + "tell a")
        self.says("graph p", "0 by 1/2; 1 by 1/2")
        self.says("tables p", "0 by 1/2; 1 by 1/2")
        self.refused("alike p p", "TooMany", 10)

    def test_the_built_in_most(self):
        text = even("a", 5) + even("b", 5) + even("c", 5) + "if a + b + c = 0\n" + even("d", 5) + "else\n"
        text += even("d", 4) + "end\n"
        self.keeps("p", text.replace(even("d", 5), even("d", 4)) + "let e = a\ntell a, b, c, d")
        self.keeps("q", text + "tell a, b, c, d")
        self.assertEqual(self.desk.say("walk p").count(";"), 499)
        self.says("alike p p", "yes")
        for row in ("walk q", "alike q q", "alike p q", "tables q", "graph q"):
            self.refused(row, "TooMany", 500)
        self.desk = Desk(501)
        self.keeps("q", text + "tell a, b, c, d")
        self.assertEqual(self.desk.say("walk q").count(";"), 500)

    def test_the_built_in_most_of_same(self):
        text = "let s = 0\n" + "".join(coins(f"a{number}") + f"let s = s + a{number}\n" for number in range(31))
        self.keeps("p", text.replace("let s = s + a30\n", "") + "tell s")
        self.says("same p s s", "yes")
        self.keeps("p", text + "tell s")
        self.refused("same p s s", "TooMany", 500)
        self.says("free p s s", "no")

    def test_the_desk_goes_on(self):
        self.keeps("p", PAIR)
        for row in ("", "show", "show x", "keep p ", "keep p tell x", "sheet p x", "free p a x", None):
            self.assertRaises(ValueError, self.desk.say, row)
            self.says("walk p", "1 0 1 by 1/3; 1 1 0 by 1/3; 2 1 1 by 1/3")
        self.keeps("q", PART)
        self.says("alike p q", "no")


class SideBySide(unittest.TestCase):
    def test_two_desks(self):
        one = Desk(8)
        other = Desk(2)
        self.assertEqual(one.say("keep p " + PAIR), "ok")
        self.assertEqual(answered(other.say, "show p"), ("NoName", "p"))
        self.assertEqual(other.say("keep p let a = 1\ntell a"), "ok")
        self.assertEqual(other.say("walk p"), "1 by 1/1")
        self.assertEqual(one.say("walk p"), "1 0 1 by 1/3; 1 1 0 by 1/3; 2 1 1 by 1/3")
        self.assertEqual(other.say("keep q " + PAIR), "ok")
        self.assertEqual(answered(other.say, "walk q"), ("TooMany", 2))
        self.assertEqual(answered(one.say, "walk q"), ("NoName", "q"))
        self.assertEqual(one.say("drop p"), "ok")
        self.assertEqual(other.say("walk p"), "1 by 1/1")
        self.assertEqual(answered(Desk().say, "show p"), ("NoName", "p"))


class OneAnswer(unittest.TestCase):
    def test_strewn_programs_their_sheets_and_slices(self):
        cannot_be = 0
        for program in strewn(200):
            look(program)
            expected = plain_shares(program)
            desk = Desk(10 ** 6)
            desk.say("keep p " + write(program))
            desk.say("sheet q p")
            desk.say("slice r p")
            desk.say("slice s q")
            with self.subTest(program=program):
                self.assertEqual(desk.say("show p"), write(program))
                self.assertEqual(desk.say("show q"), write(spread(program)))
                self.assertEqual(desk.say("show r"), write(plain_slice(spread(program))))
                for word in ("walk", "tables", "graph"):
                    for name in ("p", "q", "r", "s"):
                        found = answered(desk.say, f"{word} {name}")
                        if expected is not None:
                            self.assertEqual(found, shown(expected))
                        elif name in ("p", "q"):
                            self.assertEqual(found, ("CannotBe",))
                        else:
                            # what cannot be may lie outside of the slice
                            self.assertEqual(found, answered(desk.say, "walk r"))
                if expected is not None:
                    for row in ("alike p q", "alike q r", "alike r p", "alike s p"):
                        self.assertEqual(desk.say(row), "yes")
            cannot_be += expected is None
        self.assertTrue(10 < cannot_be < 190)

    def test_strewn_programs_by_free_and_same(self):
        counts = {}
        for program in strewn(300):
            desk = Desk(10 ** 6)
            desk.say("keep p " + write(program))
            books = plain_rows(program[1], {}, program[0])
            for one, other in itertools.product(program[2], repeat=2):
                found = (answered(desk.say, f"free p {one} {other}"), answered(desk.say, f"same p {one} {other}"))
                counts[found] = counts.get(found, 0) + 1
                with self.subTest(program=program, one=one, other=other):
                    equal = all(book[one] == book[other] for book, share in books)
                    self.assertEqual(found[1], ("yes" if equal else "no") if books else ("CannotBe",))
                    if found[0] == "yes" and books:
                        self.check_free(books, one, other)
        self.assertEqual({free for free, same in counts}, {"yes", "no"})
        self.assertEqual({same for free, same in counts}, {"yes", "no", ("CannotBe",)})

    def check_free(self, books, one, other):
        """The shares of all pairs of values are the products of theirs."""
        whole = sum(share for book, share in books)
        for number in {book[one] for book, share in books}:
            for more in {book[other] for book, share in books}:
                first = sum(share for book, share in books if book[one] == number)
                second = sum(share for book, share in books if book[other] == more)
                both = sum(share for book, share in books if (book[one], book[other]) == (number, more))
                self.assertEqual(both * whole, first * second)


if __name__ == "__main__":
    unittest.main()
