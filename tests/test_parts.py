"""Names and expressions [6] [7]."""

import unittest

from fairdraw.parts import is_name, names_in, renamed, value

A, B, C = ("name", "a"), ("name", "b"), ("name", "c")
NUMBERS = [-(10 ** 59), -2, -1, 0, 1, 2, 3, 10 ** 59]
KEY_WORDS = "draw let seen if else end rounds part give call tell by pick and or not".split()
PAIRS = {
    "+": lambda a, b: a + b,
    "-": lambda a, b: a - b,
    "<": lambda a, b: int(a < b),
    "=": lambda a, b: int(a == b),
    "and": lambda a, b: int(a != 0 and b != 0),
    "or": lambda a, b: int(a != 0 or b != 0),
}


class Value(unittest.TestCase):
    def check(self, e, book, expected):
        kept = dict(book)
        told = value(e, book)
        self.assertEqual(told, expected)
        self.assertIs(told.__class__, int)
        self.assertEqual(book, kept)

    def test_numbers(self):
        for n in (0, 1, 7, 10 ** 59):
            self.check(("num", n), {}, n)
            self.check(("num", n), {"a": 5}, n)

    def test_names(self):
        for n in NUMBERS:
            self.check(A, {"a": n, "b": 5}, n)
        self.check(("name", "num"), {"num": 4, "name": 5}, 4)
        self.check(("name", "name"), {"num": 4, "name": 5}, 5)

    def test_not(self):
        for n in NUMBERS:
            self.check(("not", A), {"a": n}, 1 if n == 0 else 0)
            self.check(("not", ("not", A)), {"a": n}, 0 if n == 0 else 1)

    def test_signs_of_two(self):
        for sign in PAIRS:
            for a in NUMBERS:
                for b in NUMBERS:
                    with self.subTest(sign=sign, a=a, b=b):
                        self.check((sign, A, B), {"a": a, "b": b}, PAIRS[sign](a, b))

    def test_told_results(self):
        book = {"a": -3, "b": 2, "c": 0}
        for e, expected in [
            (("+", A, B), -1), (("-", A, B), -5), (("-", B, A), 5),
            (("<", A, B), 1), (("<", B, A), 0), (("<", A, A), 0),
            (("=", A, B), 0), (("=", A, A), 1),
            (("and", A, B), 1), (("and", A, C), 0), (("and", C, A), 0), (("and", C, C), 0),
            (("or", A, B), 1), (("or", A, C), 1), (("or", C, A), 1), (("or", C, C), 0),
            (("not", A), 0), (("not", B), 0), (("not", C), 1),
        ]:
            with self.subTest(e=e):
                self.check(e, book, expected)

    def test_pick(self):
        for c in NUMBERS:
            for a in NUMBERS:
                book = {"a": a, "b": 77, "c": c}
                self.check(("pick", C, A, B), book, 77 if c == 0 else a)
                self.check(("pick", C, B, A), book, a if c == 0 else 77)

    def test_parts_within_parts(self):
        e = ("pick", ("<", A, ("num", 2)), ("-", ("+", A, B), ("num", 10)), ("not", ("or", A, B)))
        self.check(e, {"a": 1, "b": 4}, -5)
        self.check(e, {"a": 2, "b": 4}, 0)
        self.check(("+", ("=", A, A), ("not", ("num", 0))), {"a": 6}, 2)

    def test_forty_parts_and_somewhat_more(self):
        for many in (39, 60):
            e = A
            for time in range(many):
                e = ("not", e)
            self.check(e, {"a": 0}, many % 2)
        e = A
        for time in range(30):
            e = ("-", ("num", 1), e)
        self.check(e, {"a": 5}, 5)


class NamesIn(unittest.TestCase):
    def check(self, e, expected):
        told = names_in(e)
        self.assertEqual(told, expected)
        self.assertIs(told.__class__, list)

    def test_each_form(self):
        self.check(("num", 3), [])
        self.check(A, ["a"])
        self.check(("not", A), ["a"])
        self.check(("not", ("num", 0)), [])
        for sign in PAIRS:
            self.check((sign, A, B), ["a", "b"])
            self.check((sign, B, A), ["b", "a"])
            self.check((sign, A, A), ["a"])
            self.check((sign, ("num", 1), B), ["b"])
            self.check((sign, B, ("num", 1)), ["b"])

    def test_pick(self):
        self.check(("pick", C, A, B), ["c", "a", "b"])
        self.check(("pick", B, C, A), ["b", "c", "a"])
        self.check(("pick", B, A, B), ["b", "a"])
        self.check(("pick", A, A, A), ["a"])
        self.check(("pick", ("num", 1), ("num", 0), B), ["b"])

    def test_in_the_order_in_which_they_first_stand(self):
        e = ("+", ("-", C, ("not", A)), ("pick", A, ("or", B, C), ("name", "z1")))
        self.check(e, ["c", "a", "b", "z1"])
        e = ("and", ("<", ("name", "z"), ("name", "y")), ("=", ("name", "y"), ("name", "x")))
        self.check(e, ["z", "y", "x"])

    def test_names_like_marks(self):
        self.check(("+", ("name", "num"), ("name", "name")), ["num", "name"])

    def test_a_new_list_each_time(self):
        for e in (("num", 1), A, ("+", A, B), ("pick", C, A, B)):
            expected = list(names_in(e))
            names_in(e).append("more")
            self.assertEqual(names_in(e), expected)
            self.assertIsNot(names_in(e), names_in(e))


class Renamed(unittest.TestCase):
    def check(self, e, book, expected):
        kept = dict(book)
        told = renamed(e, book)
        self.assertEqual(told, expected)
        self.assertIs(told.__class__, tuple)
        self.assertEqual(book, kept)

    def test_each_form(self):
        book = {"a": "v0", "b": "v1", "c": "v2"}
        x, y, z = ("name", "v0"), ("name", "v1"), ("name", "v2")
        self.check(("num", 3), book, ("num", 3))
        self.check(("num", 0), {}, ("num", 0))
        self.check(A, book, x)
        self.check(("not", B), book, ("not", y))
        for sign in PAIRS:
            self.check((sign, A, B), book, (sign, x, y))
        self.check(("pick", C, A, B), book, ("pick", z, x, y))

    def test_parts_within_parts(self):
        e = ("or", ("not", ("+", A, ("num", 2))), ("pick", A, ("-", B, A), ("num", 0)))
        x, y = ("name", "x"), ("name", "y")
        expected = ("or", ("not", ("+", x, ("num", 2))), ("pick", x, ("-", y, x), ("num", 0)))
        self.check(e, {"a": "x", "b": "y"}, expected)

    def test_swapped(self):
        self.check(("-", A, ("+", B, A)), {"a": "b", "b": "a"}, ("-", B, ("+", A, B)))
        book = {"a": "b", "b": "c", "c": "a"}
        self.check(("pick", A, B, C), book, ("pick", B, C, A))

    def test_several_become_one(self):
        self.check(("pick", A, B, C), {"a": "z", "b": "z", "c": "z"}, ("pick",) + (("name", "z"),) * 3)
        self.check(("-", A, B), {"a": "b", "b": "b"}, ("-", B, B))

    def test_names_like_marks(self):
        book = {"num": "name", "name": "num", "not": "pick"}
        self.check(("+", ("name", "num"), ("name", "name")), book, ("+", ("name", "name"), ("name", "num")))
        self.check(("not", ("name", "num")), book, ("not", ("name", "name")))

    def test_what_is_handed_in_stays(self):
        e = ("+", A, ("not", B))
        renamed(e, {"a": "x", "b": "y"})
        self.assertEqual(e, ("+", ("name", "a"), ("not", ("name", "b"))))

    def test_value_goes_along(self):
        e = ("pick", ("<", A, B), ("-", A, C), ("+", B, C))
        names = {"a": "x", "b": "y", "c": "a"}
        for a in (-1, 0, 4):
            told = value(renamed(e, names), {"x": a, "y": 2, "a": 9})
            self.assertEqual(told, value(e, {"a": a, "b": 2, "c": 9}))


class IsName(unittest.TestCase):
    def yes(self, thing):
        with self.subTest(thing=thing):
            self.assertIs(is_name(thing), True)

    def no(self, thing):
        with self.subTest(thing=repr(thing)):
            self.assertIs(is_name(thing), False)

    def test_lengths(self):
        for thing in ("a", "z", "ab", "a1b2c3d", "abcdefgh", "a1234567", "zzzzzzzz"):
            self.yes(thing)
        for thing in ("", "abcdefghi", "a12345678", "a" * 100):
            self.no(thing)

    def test_each_sign_in_each_place(self):
        letters = "abcdefghijklmnopqrstuvwxyz"
        for code in range(0, 400):
            sign = chr(code)
            self.assertIs(is_name(sign), sign in letters)
            self.assertIs(is_name("q" + sign), sign in letters + "0123456789")
            self.assertIs(is_name("q" + sign + "q"), sign in letters + "0123456789")

    def test_signs_that_are_none(self):
        for thing in (
            "1", "1a", "0", "9z", "A", "Ab", "aB", "abcdefgH", " ", "a ", " a", "a b", "_", "_a", "a_",
            "a\n", "\na", "\n", "a\t", "a-b", "a.b", "a\u00e9", "\u00e9", "\u0661", "a\u0661", "a\u00b2",
            "\uff41", "a\uff11",
        ):
            self.no(thing)

    def test_key_words(self):
        self.assertEqual(len(KEY_WORDS), 16)
        for word in KEY_WORDS:
            self.no(word)

    def test_key_words_with_one_sign_more_or_less(self):
        for word in KEY_WORDS:
            for sign in "asz019":
                if word + sign not in KEY_WORDS:
                    self.yes(word + sign)
            if word[:-1] not in KEY_WORDS:
                self.yes(word[:-1])
        for thing in ("ends", "or1", "dra", "num", "name", "keep", "walk", "true", "none", "def"):
            self.yes(thing)

    def test_what_is_no_text(self):
        for thing in (
            None, 0, 1, -1, True, False, [], ["a"], (), ("a",), ("name", "a"), {}, {"a": 1}, {"a"},
            b"a", 1.5, object(), str, is_name,
        ):
            self.no(thing)


if __name__ == "__main__":
    unittest.main()
