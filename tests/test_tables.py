"""Tables: joined, names pushed out, and what they tell [17] [18] [19] [22] [2]."""

import copy
import itertools
import random
import unittest
from fractions import Fraction

from fairdraw.errors import CannotBe, TooMany
from fairdraw.tables import joined, pushed, told

GREAT = 10 ** 59 + 7
NOTHING = ((), [])
ONE = ((), [((), (1, 1))])
COIN = (("a",), [((0,), (1, 3)), ((1,), (2, 3))])
PAIR = (("a", "b"), [((0, 0), (1, 2)), ((0, 1), (1, 4)), ((1, 1), (1, 4))])


def pair(share):
    return (share.numerator, share.denominator)


def strewn_table(chance, names):
    """A table of some of the rows that these names could have, perhaps of none."""
    names = tuple(sorted(names))
    kinds = [chance.sample([-GREAT, -2, -1, 0, 1, 2, GREAT], 2) for name in names]
    rows = sorted(values for values in itertools.product(*kinds) if chance.randrange(4))
    shares = [Fraction(chance.randrange(1, 9), chance.randrange(1, 9)) for values in rows]
    return (names, [(values, pair(share)) for values, share in zip(rows, shares)])


def strewn_tables(many):
    chance = random.Random(17)
    for time in range(many):
        yield strewn_table(chance, chance.sample(["a", "a1", "ab", "b", "c"], chance.randrange(4)))


def share_of(table, book):
    """The share that a table has for what a book says of its names."""
    for values, share in table[1]:
        if all(book[name] == value for name, value in zip(table[0], values)):
            return Fraction(*share)
    return Fraction(0)


def kinds_of(tables, name):
    """All values that the name has in tables."""
    found = set()
    for names, rows in tables:
        if name in names:
            found |= {values[names.index(name)] for values, share in rows}
    return sorted(found)


def books_of(tables):
    names = sorted({name for table in tables for name in table[0]})
    for values in itertools.product(*[kinds_of(tables, name) for name in names]):
        yield dict(zip(names, values))


def table_of(names, shares):
    """The table of a dict of shares, those of 0 left out."""
    return (tuple(names), [(values, pair(share)) for values, share in sorted(shares.items()) if share])


class TableCase(unittest.TestCase):
    def same(self, table, expected):
        self.assertEqual(table, expected)
        self.assertIs(table.__class__, tuple)
        self.assertIs(table[0].__class__, tuple)
        self.assertIs(table[1].__class__, list)
        for row in table[1]:
            self.assertIs(row.__class__, tuple)
            self.assertIs(row[0].__class__, tuple)
            self.assertIs(row[1].__class__, tuple)

    def check_joined(self, one, other, expected):
        kept = copy.deepcopy((one, other))
        self.same(joined(one, other), expected)
        self.same(joined(other, one), expected)
        self.assertEqual((one, other), kept)

    def check_pushed(self, table, name, expected):
        kept = copy.deepcopy(table)
        self.same(pushed(table, name), expected)
        self.assertEqual(table, kept)

    def check_told(self, table, names, expected):
        kept = copy.deepcopy((table, names))
        found = told(table, names)
        self.assertEqual(found, expected)
        self.assertIs(found.__class__, list)
        self.assertEqual((table, names), kept)


class Joined(TableCase):
    def test_no_names(self):
        self.check_joined(ONE, ONE, ONE)
        self.check_joined(ONE, NOTHING, NOTHING)
        self.check_joined(NOTHING, NOTHING, NOTHING)
        self.check_joined(((), [((), (2, 3))]), ((), [((), (3, 4))]), ((), [((), (1, 2))]))
        self.check_joined(ONE, PAIR, PAIR)
        self.check_joined(((), [((), (3, 2))]), COIN, (("a",), [((0,), (1, 2)), ((1,), (1, 1))]))

    def test_no_rows(self):
        self.check_joined(NOTHING, COIN, (("a",), []))
        self.check_joined((("b",), []), COIN, (("a", "b"), []))
        self.check_joined((("a",), []), COIN, (("a",), []))
        self.check_joined((("a",), []), (("b",), []), (("a", "b"), []))

    def test_the_same_names(self):
        self.check_joined(COIN, COIN, (("a",), [((0,), (1, 9)), ((1,), (4, 9))]))
        self.check_joined(PAIR, PAIR, (("a", "b"), [((0, 0), (1, 4)), ((0, 1), (1, 16)), ((1, 1), (1, 16))]))
        self.check_joined(COIN, (("a",), [((1,), (1, 2)), ((2,), (1, 2))]), (("a",), [((1,), (1, 3))]))
        self.check_joined(COIN, (("a",), [((3,), (1, 1))]), (("a",), []))

    def test_no_names_in_common(self):
        other = (("b",), [((-1,), (1, 4)), ((5,), (3, 4))])
        self.check_joined(COIN, other, (("a", "b"), [
            ((0, -1), (1, 12)), ((0, 5), (1, 4)), ((1, -1), (1, 6)), ((1, 5), (1, 2)),
        ]))

    def test_some_names_in_common(self):
        self.check_joined(COIN, PAIR, (("a", "b"), [((0, 0), (1, 6)), ((0, 1), (1, 12)), ((1, 1), (1, 6))]))
        other = (("b", "c"), [((0, 7), (1, 2)), ((1, 6), (1, 3)), ((1, 7), (1, 6))])
        self.check_joined(PAIR, other, (("a", "b", "c"), [
            ((0, 0, 7), (1, 4)), ((0, 1, 6), (1, 12)), ((0, 1, 7), (1, 24)), ((1, 1, 6), (1, 12)), ((1, 1, 7), (1, 24)),
        ]))

    def test_two_names_in_common(self):
        one = (("a", "b", "d"), [((0, 0, 1), (1, 2)), ((0, 1, 1), (1, 4)), ((1, 0, 1), (1, 4))])
        other = (("b", "c", "d"), [((0, 5, 1), (1, 3)), ((0, 5, 2), (1, 3)), ((1, 5, 1), (1, 3))])
        self.check_joined(one, other, (("a", "b", "c", "d"), [
            ((0, 0, 5, 1), (1, 6)), ((0, 1, 5, 1), (1, 12)), ((1, 0, 5, 1), (1, 12)),
        ]))

    def test_names_sorted_as_texts(self):
        one = (("a1", "b"), [((1, 2), (1, 1))])
        other = (("a", "aa"), [((3, 4), (1, 1))])
        self.check_joined(one, other, (("a", "a1", "aa", "b"), [((3, 1, 4, 2), (1, 1))]))
        one = (("v10", "v2"), [((10, 2), (1, 1))])
        self.check_joined(one, (("v1",), [((1,), (1, 1))]), (("v1", "v10", "v2"), [((1, 10, 2), (1, 1))]))

    def test_rows_sorted_by_values(self):
        numbers = [-GREAT, -12, -1, 0, 2, 3, 10, GREAT]
        one = (("b",), [((number,), (1, 8)) for number in numbers])
        other = (("a",), [((number,), (1, 1)) for number in (-3, 20)])
        expected = [((first, second), (1, 8)) for first in (-3, 20) for second in numbers]
        self.check_joined(one, other, (("a", "b"), expected))

    def test_shares_in_lowest_terms(self):
        one = (("a",), [((1,), (6, 35)), ((2,), (GREAT, 3))])
        other = (("a",), [((1,), (35, 6)), ((2,), (3, GREAT))])
        self.check_joined(one, other, (("a",), [((1,), (1, 1)), ((2,), (1, 1))]))

    def test_most(self):
        one = (("a",), [((number,), (1, 5)) for number in range(5)])
        other = (("b",), [((number,), (1, 4)) for number in range(4)])
        self.assertEqual(len(joined(one, other, 20)[1]), 20)
        self.assertEqual(joined(one, other, 20), joined(one, other))
        for most in (1, 4, 5, 19):
            with self.assertRaises(TooMany) as caught:
                joined(one, other, most)
            self.assertEqual(caught.exception.most, most)

    def test_the_built_in_most(self):
        one = (("a",), [((number,), (1, 25)) for number in range(25)])
        other = (("b",), [((number,), (1, 20)) for number in range(20)])
        self.assertEqual(len(joined(one, other)[1]), 500)
        great = (("a",), [((number,), (1, 501)) for number in range(501)])
        for some in ((one, (("b",), other[1] + [((20,), (1, 20))])), (great, ONE), (ONE, great), (great, great)):
            with self.assertRaises(TooMany) as caught:
                joined(*some)
            self.assertEqual(caught.exception.most, 500)
        self.assertEqual(joined(great, ONE, 501), great)

    def test_rows_are_measured_and_not_pairs(self):
        great = (("a",), [((number,), (1, 500)) for number in range(500)])
        self.assertEqual(len(joined(great, great)[1]), 500)
        self.assertEqual(joined(great, (("a",), [((3,), (1, 1))]), 1), (("a",), [((3,), (1, 500))]))
        self.assertEqual(joined(great, (("a", "b"), []), 1), (("a", "b"), []))

    def test_far_too_many_are_refused_soon(self):
        one = (("a",), [((number,), (1, 1)) for number in range(20000)])
        other = (("b",), [((number,), (1, 1)) for number in range(20000)])
        with self.assertRaises(TooMany):
            joined(one, other, 1000)

    def test_many_rows_that_match_one_to_one(self):
        table = (("a",), [((number,), (1, 2)) for number in range(20000)])
        self.assertEqual(len(joined(table, table, 10 ** 6)[1]), 20000)

    def test_strewn(self):
        tables = list(strewn_tables(120))
        for one, other in zip(tables, tables[1:]):
            with self.subTest(one=one, other=other):
                shares = {}
                names = sorted(set(one[0]) | set(other[0]))
                for book in books_of([one, other]):
                    values = tuple(book[name] for name in names)
                    shares[values] = share_of(one, book) * share_of(other, book)
                self.check_joined(one, other, table_of(names, shares))


class Pushed(TableCase):
    def test_a_name_of_several(self):
        self.check_pushed(PAIR, "a", (("b",), [((0,), (1, 2)), ((1,), (1, 2))]))
        self.check_pushed(PAIR, "b", (("a",), [((0,), (3, 4)), ((1,), (1, 4))]))

    def test_the_only_name(self):
        self.check_pushed(COIN, "a", ONE)
        self.check_pushed((("a",), [((0,), (1, 6)), ((3,), (1, 3))]), "a", ((), [((), (1, 2))]))

    def test_a_name_that_it_has_not(self):
        for table in (PAIR, COIN, ONE, NOTHING, (("a",), [])):
            self.check_pushed(table, "q", table)
        self.check_pushed((("ab",), [((1,), (1, 2))]), "a", (("ab",), [((1,), (1, 2))]))

    def test_no_rows(self):
        self.check_pushed((("a",), []), "a", NOTHING)
        self.check_pushed((("a", "b"), []), "a", (("b",), []))

    def test_the_middle_one(self):
        table = (("a", "b", "c"), [
            ((-GREAT, -1, 0), (1, 7)), ((-GREAT, 2, 0), (2, 7)), ((1, -1, 0), (1, 7)), ((1, 0, -5), (3, 7)),
        ])
        self.check_pushed(table, "b", (("a", "c"), [((-GREAT, 0), (3, 7)), ((1, -5), (3, 7)), ((1, 0), (1, 7))]))
        self.check_pushed(table, "a", (("b", "c"), [((-1, 0), (2, 7)), ((0, -5), (3, 7)), ((2, 0), (2, 7))]))

    def test_rows_are_sorted_again(self):
        table = (("a", "b"), [((-1, 9), (1, 4)), ((0, -GREAT), (1, 4)), ((5, GREAT), (1, 4)), ((7, -2), (1, 4))])
        expected = [((number,), (1, 4)) for number in (-GREAT, -2, 9, GREAT)]
        self.check_pushed(table, "a", (("b",), expected))

    def test_what_is_told_is_new(self):
        table = copy.deepcopy(PAIR)
        for name in ("a", "q"):
            pushed(table, name)[1].clear()
        self.assertEqual(table, PAIR)

    def test_strewn(self):
        for table in strewn_tables(120):
            for name in ("a", "a1", "b"):
                with self.subTest(table=table, name=name):
                    rest = [other for other in table[0] if other != name]
                    shares = {}
                    for book in books_of([table]):
                        values = tuple(book[other] for other in rest)
                        shares[values] = shares.get(values, 0) + share_of(table, book)
                    self.check_pushed(table, name, table_of(rest, shares))


class Told(TableCase):
    def test_one_name(self):
        self.check_told(COIN, ["a"], [((0,), (1, 3)), ((1,), (2, 3))])
        self.check_told(PAIR, ["b"], [((0,), (1, 2)), ((1,), (1, 2))])

    def test_shares_are_divided_by_their_total(self):
        table = (("a",), [((0,), (1, 6)), ((1,), (1, 3))])
        self.check_told(table, ["a"], [((0,), (1, 3)), ((1,), (2, 3))])
        table = (("a",), [((0,), (5, 1)), ((1,), (10, 1))])
        self.check_told(table, ["a"], [((0,), (1, 3)), ((1,), (2, 3))])

    def test_no_names(self):
        self.check_told(PAIR, [], [((), (1, 1))])
        self.check_told(ONE, [], [((), (1, 1))])
        self.check_told(((), [((), (3, 7))]), [], [((), (1, 1))])

    def test_all_names_in_another_order(self):
        table = (("a", "b", "c"), [
            ((0, 3, -1), (1, 2)), ((1, 2, GREAT), (1, 4)), ((2, 2, -GREAT), (1, 8)), ((3, -5, 0), (1, 8)),
        ])
        self.check_told(table, ["c", "b", "a"], [
            ((-GREAT, 2, 2), (1, 8)), ((-1, 3, 0), (1, 2)), ((0, -5, 3), (1, 8)), ((GREAT, 2, 1), (1, 4)),
        ])
        self.check_told(table, ["b", "c"], [
            ((-5, 0), (1, 8)), ((2, -GREAT), (1, 8)), ((2, GREAT), (1, 4)), ((3, -1), (1, 2)),
        ])
        self.check_told(table, ["a", "b", "c"], table[1])
        self.check_told(table, ["b"], [((-5,), (1, 8)), ((2,), (3, 8)), ((3,), (1, 2))])

    def test_no_rows(self):
        for names in ([], ["a"], ["b", "a"]):
            with self.assertRaises(CannotBe):
                told((("a", "b"), []), names)
        with self.assertRaises(CannotBe):
            told(NOTHING, [])

    def test_what_is_told_is_new(self):
        table = copy.deepcopy(PAIR)
        names = ["a", "b"]
        found = told(table, names)
        found.clear()
        self.assertEqual((table, names), (PAIR, ["a", "b"]))
        found = told(table, names)
        table[1].clear()
        names.clear()
        self.assertEqual(found, PAIR[1])

    def test_strewn(self):
        for table in strewn_tables(120):
            whole = sum(Fraction(*share) for values, share in table[1])
            for names in itertools.permutations(table[0][:3], 2):
                with self.subTest(table=table, names=names):
                    if not table[1]:
                        self.assertRaises(CannotBe, told, table, list(names))
                        continue
                    shares = {}
                    for book in books_of([table]):
                        values = tuple(book[name] for name in names)
                        shares[values] = shares.get(values, 0) + share_of(table, book) / whole
                    self.check_told(table, list(names), table_of(names, shares)[1])


if __name__ == "__main__":
    unittest.main()
