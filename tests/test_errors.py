"""The refusals [2]."""

import copy
import unittest

from fairdraw.errors import (
    CannotBe, DrawError, NoCall, NoFraction, NoName, NoRow, NoShares, NoText, TooMany, Twice,
)

BARE = [NoFraction, CannotBe, NoRow]
FIELDS = [
    (NoText, "row"), (Twice, "what"), (NoShares, "total"),
    (NoName, "name"), (NoCall, "name"), (TooMany, "most"),
]
HANDED = [0, 1, -7, 10 ** 60, 10 ** 5000, "", "x", "v12", (1, 2), (-3, 7), (10 ** 999, 3)]


def one_of_each():
    return [kind() for kind in BARE] + [kind(1) for kind, field in FIELDS]


class Kinds(unittest.TestCase):
    def test_there_are_nine(self):
        self.assertEqual(len({error.__class__ for error in one_of_each()}), 9)

    def test_any_refusal_is_a_value_error(self):
        self.assertTrue(issubclass(DrawError, ValueError))
        for error in one_of_each():
            with self.subTest(error=error.__class__.__name__):
                self.assertIsInstance(error, DrawError)
                self.assertIsInstance(error, ValueError)

    def test_none_is_under_another_one(self):
        kinds = BARE + [kind for kind, field in FIELDS]
        for error in one_of_each():
            under = [kind for kind in kinds if isinstance(error, kind)]
            self.assertEqual(under, [error.__class__])

    def test_caught_by_its_own_name_and_by_any(self):
        for error in one_of_each():
            for kind in (error.__class__, DrawError, ValueError):
                with self.subTest(error=error.__class__.__name__, kind=kind.__name__):
                    with self.assertRaises(kind) as caught:
                        raise error
                    self.assertEqual(caught.exception.__class__, error.__class__)

    def test_not_caught_by_another_name(self):
        for error in one_of_each():
            for other in one_of_each():
                if other.__class__ == error.__class__:
                    continue
                with self.assertRaises(error.__class__):
                    try:
                        raise error
                    except other.__class__:
                        pass


class Fields(unittest.TestCase):
    def test_field_holds_what_it_was_made_with(self):
        for kind, field in FIELDS:
            for handed in HANDED:
                with self.subTest(kind=kind.__name__):
                    held = getattr(kind(handed), field)
                    self.assertEqual(held, handed)
                    self.assertEqual(held.__class__, handed.__class__)

    def test_two_of_a_kind_keep_apart(self):
        for kind, field in FIELDS:
            one, other = kind("a"), kind("b")
            self.assertEqual((getattr(one, field), getattr(other, field)), ("a", "b"))

    def test_just_one_argument(self):
        for kind, field in FIELDS:
            with self.subTest(kind=kind.__name__):
                self.assertRaises(TypeError, kind)
                self.assertRaises(TypeError, kind, 1, 2)

    def test_a_copy_has_the_field(self):
        for kind, field in FIELDS:
            self.assertEqual(getattr(copy.copy(kind((2, 3))), field), (2, 3))

    def test_raised_with_its_field(self):
        with self.assertRaises(DrawError) as caught:
            raise NoText(12)
        self.assertEqual(caught.exception.row, 12)


if __name__ == "__main__":
    unittest.main()
