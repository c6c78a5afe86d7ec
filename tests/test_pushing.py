"""Names pushed out of lists of tables, and the best order [20] [21] [2]."""

import copy
import itertools
import random
import unittest
from fractions import Fraction

from fairdraw.errors import TooMany
from fairdraw.pushing import all_pushed, best_order
from helper import plain_best_order, plain_joined, plain_pushed

ONE = ((), [((), (1, 1))])
# a coin a, b that hangs on a, c that hangs on b
CHAIN = [
    (("a",), [((0,), (1, 3)), ((1,), (2, 3))]),
    (("a", "b"), [((0, 0), (1, 2)), ((0, 1), (1, 2)), ((1, 1), (1, 1))]),
    (("b", "c"), [((0, 5), (1, 1)), ((1, -5), (1, 4)), ((1, 5), (3, 4))]),
]


def wide(name, many, below=0):
    """A table of one name and many values."""
    return ((name,), [((number - below,), (1, 1)) for number in range(many)])


def plain_all_pushed(tables, order):
    """All tables joined first, the names pushed out of the whole one."""
    whole = ONE
    for table in tables:
        whole = plain_pushed(*plain_joined(whole, table), [])
    return plain_pushed(whole[0], {values: Fraction(*share) for values, share in whole[1]}, order)


def strewn_tables(chance):
    """Some small tables of few names, one perhaps without rows or names."""
    tables = []
    for time in range(chance.randrange(1, 5)):
        names = tuple(sorted(chance.sample(["a", "ab", "b", "c"], chance.randrange(3))))
        rows = [values for values in itertools.product([-1, 0, 10 ** 59], repeat=len(names)) if chance.randrange(5)]
        tables.append((names, [(values, (chance.randrange(1, 4), 1)) for values in rows]))
    return tables


class AllPushed(unittest.TestCase):
    def check(self, tables, order, expected, *most):
        kept = copy.deepcopy((tables, order))
        found = all_pushed(tables, order, *most)
        self.assertEqual(found, expected)
        self.assertEqual([found.__class__, found[0].__class__, found[1].__class__], [tuple, tuple, list])
        self.assertEqual((tables, order), kept)

    def refused(self, tables, order, most, *told_most):
        kept = copy.deepcopy((tables, order))
        with self.assertRaises(TooMany) as caught:
            all_pushed(tables, order, *told_most)
        self.assertEqual(caught.exception.most, most)
        self.assertEqual((tables, order), kept)

    def test_chain(self):
        self.check(CHAIN, ["a", "b"], (("c",), [((-5,), (5, 24)), ((5,), (19, 24))]))
        self.check(CHAIN, ["b", "a"], (("c",), [((-5,), (5, 24)), ((5,), (19, 24))]))
        self.check(CHAIN, ["a", "c"], (("b",), [((0,), (1, 6)), ((1,), (5, 6))]))
        self.check(CHAIN, ["c"], (("a", "b"), [((0, 0), (1, 6)), ((0, 1), (1, 6)), ((1, 1), (2, 3))]))

    def test_every_order_tells_the_same(self):
        for many in range(4):
            for names in itertools.combinations("abc", many):
                expected = plain_all_pushed(CHAIN, names)
                for order in itertools.permutations(names):
                    for tables in itertools.permutations(CHAIN):
                        self.check(list(tables), list(order), expected)
        self.check(CHAIN, ["c", "a", "b"], ONE)

    def test_no_table(self):
        self.check([], [], ONE)
        self.check([], ["a", "b"], ONE)

    def test_what_is_told_of_no_table_is_new(self):
        all_pushed([], [])[1].clear()
        self.check([], [], ONE)

    def test_no_order(self):
        self.check(CHAIN[:2], [], (("a", "b"), [((0, 0), (1, 6)), ((0, 1), (1, 6)), ((1, 1), (2, 3))]))

    def test_a_name_that_no_table_has(self):
        expected = (("c",), [((-5,), (5, 24)), ((5,), (19, 24))])
        for order in (["q", "a", "b"], ["a", "q", "b"], ["a", "b", "q"], ["aa", "a", "b", "bb"]):
            self.check(CHAIN, order, expected)

    def test_a_name_twice(self):
        expected = (("c",), [((-5,), (5, 24)), ((5,), (19, 24))])
        for order in (["a", "a", "b"], ["a", "b", "a"], ["b", "a", "b", "a"]):
            self.check(CHAIN, order, expected)

    def test_tables_without_names_or_rows(self):
        half = ((), [((), (1, 2))])
        self.check([half, CHAIN[0], half], ["a"], ((), [((), (1, 4))]))
        self.check([ONE, ONE], ["a"], ONE)
        self.check([((), []), CHAIN[0]], ["a"], ((), []))
        self.check([(("a",), []), CHAIN[0], (("b",), [((1,), (1, 1))])], ["a"], (("b",), []))

    def test_the_same_table_twice(self):
        self.check([CHAIN[0], CHAIN[0]], ["a"], ((), [((), (5, 9))]))

    def test_one_table_alone_is_never_refused(self):
        table = wide("a", 600)
        self.check([table], [], table)
        self.check([table], ["b"], table)
        self.check([table], [], table, 1)
        self.check([table], ["a"], ((), [((), (600, 1))]), 1)
        both = (("a", "b"), [((number, 0), (1, 1)) for number in range(600)])
        self.check([both], ["b"], table, 1)

    def test_what_is_told_of_one_table_is_new(self):
        table = wide("a", 3)
        tables = [table]
        for order in ([], ["q"]):
            all_pushed(tables, order)[1].clear()
        self.assertEqual(tables, [wide("a", 3)])
        found = all_pushed(tables, [])
        table[1].clear()
        self.assertEqual(found, wide("a", 3))

    def test_most(self):
        tables = [wide("a", 5), wide("b", 4)]
        self.assertEqual(len(all_pushed(tables, [], 20)[1]), 20)
        self.refused(tables, [], 19, 19)
        # each name stands alone, so nothing is joined but the two shares that are left
        self.check(tables, ["a", "b"], ((), [((), (20, 1))]), 1)
        self.assertEqual(len(all_pushed([wide("a", 25), wide("b", 20)], [])[1]), 500)
        self.refused([wide("a", 167), wide("b", 3)], [], 500)

    def test_joined_from_the_left(self):
        # a and b, then c: the first join has six rows, the second two
        few = (("a", "b"), [((0, 0), (1, 1)), ((1, 1), (1, 1))])
        tables = [wide("a", 2), wide("b", 3), few]
        self.check(tables, [], few, 6)
        self.refused(tables, [], 5, 5)
        for order in ([few, wide("a", 2), wide("b", 3)], [wide("a", 2), few, wide("b", 3)]):
            self.check(order, [], few, 2)
            self.refused(order, [], 1, 1)

    def test_joined_from_the_left_for_a_name(self):
        few = (("a", "b", "c"), [((0, 0, 0), (1, 1)), ((1, 1, 0), (1, 1))])
        tables = [(("a", "c"), [((number, 0), (1, 1)) for number in range(3)]),
                  (("b", "c"), [((number, 0), (1, 1)) for number in range(3)]), few]
        expected = (("a", "b"), [((0, 0), (1, 1)), ((1, 1), (1, 1))])
        self.check(tables, ["c"], expected, 9)
        self.refused(tables, ["c"], 8, 8)
        self.check(tables[::-1], ["c"], expected, 2)
        self.check([tables[2]] + tables[:2], ["c"], expected, 2)
        self.check([tables[0], tables[2], tables[1]], ["c"], expected, 2)

    def test_what_is_left_of_a_name_is_put_to_the_end(self):
        table = (("a", "x"), [((number, 0), (1, 1)) for number in range(3)])
        # joined are c and d (ten rows), then both with a; with a at the begin it would be fifteen rows of a and c
        tables = [table, wide("c", 5), wide("d", 2), (("a",), [((0,), (1, 1))])]
        self.assertEqual(len(all_pushed(tables, ["x"], 10)[1]), 10)
        self.refused(tables, ["x"], 9, 9)
        # the tables that are left stand in the order of the names: a, b, then the one row of both, or that row between
        other = (("b", "y"), [((number, 0), (1, 1)) for number in range(4)])
        few = (("a", "b", "z"), [((0, 0, 0), (1, 1))])
        expected = (("a", "b"), [((0, 0), (1, 1))])
        self.check([few, other, table], ["x", "y", "z"], expected, 12)
        self.refused([few, other, table], ["x", "y", "z"], 11, 11)
        self.check([few, other, table], ["x", "z", "y"], expected, 1)

    def test_which_names_stand_in_which_order(self):
        # pushing the hub out first joins all, pushing it out last joins little
        hub = [(("h", name), [((0, number), (1, 1)) for number in range(3)]) for name in ("x", "y", "z")]
        self.check(hub, ["x", "y", "z", "h"], ((), [((), (27, 1))]), 3)
        self.check(hub, ["h", "x", "y", "z"], ((), [((), (27, 1))]), 27)
        self.refused(hub, ["h", "x", "y", "z"], 26, 26)

    def test_strewn(self):
        chance = random.Random(5)
        for time in range(150):
            tables = strewn_tables(chance)
            order = chance.sample(["a", "ab", "b", "c", "q"], chance.randrange(6))
            with self.subTest(tables=tables, order=order):
                self.check(tables, order, plain_all_pushed(tables, order))


class BestOrder(unittest.TestCase):
    def check(self, scopes, keep, expected):
        kept = copy.deepcopy((scopes, keep))
        found = best_order(scopes, keep)
        self.assertEqual(found, expected)
        self.assertIs(found.__class__, list)
        self.assertEqual((scopes, keep), kept)

    def test_none(self):
        self.check([], [], [])
        self.check([], ["a"], [])
        self.check([[]], [], [])
        self.check([[], []], ["a"], [])

    def test_one_scope(self):
        self.check([["a"]], [], ["a"])
        self.check([["b", "a", "c"]], [], ["a", "b", "c"])
        self.check([["b", "a", "c"]], ["a"], ["b", "c"])
        self.check([["b", "a", "c"]], ["c", "b", "a"], [])

    def test_fewest_first(self):
        # b and c stand with one other each, a with two
        self.check([["a", "b"], ["a", "c"]], [], ["b", "a", "c"])
        self.check([["h", "x"], ["h", "y"], ["h", "z"]], [], ["x", "y", "h", "z"])
        self.check([["z", "y"], ["y", "x"], ["x", "w"]], [], ["w", "x", "y", "z"])
        self.check([["a", "b", "c"], ["d"], ["c", "d"]], [], ["d", "a", "b", "c"])

    def test_ties_go_to_the_least_as_a_text(self):
        self.check([["v10"], ["v2"], ["v1"]], [], ["v1", "v10", "v2"])
        self.check([["b"], ["aa"], ["a1"], ["a"]], [], ["a", "a1", "aa", "b"])
        self.check([["d", "c"], ["b", "a"]], [], ["a", "b", "c", "d"])

    def test_scopes_become_one(self):
        scopes = [["a", "b"], ["a", "c"], ["a", "d"], ["b", "e", "f", "g"], ["c", "e", "f", "g"], ["d", "e", "f", "g"]]
        self.check(scopes, [], plain_best_order(scopes, []))
        # behind d and b, a stands with c alone, as c does with a and e
        self.check([["a", "b"], ["a", "c"], ["b", "d"], ["c", "e"]], [], ["d", "b", "a", "c", "e"])
        self.check([["a", "b"], ["a", "c"], ["b", "d", "x"], ["c", "d", "x"]], ["x"], ["a", "b", "c", "d"])

    def test_kept_names_count(self):
        # a stands with two kept names, b with one other name
        self.check([["a", "x", "y"], ["b", "c"]], ["x", "y"], ["b", "c", "a"])
        self.check([["a", "x"], ["b", "c", "d"]], ["x"], ["a", "b", "c", "d"])
        self.check([["a", "x"], ["a", "y"], ["b", "x"]], ["x", "y"], ["b", "a"])

    def test_kept_names_that_stand_in_no_scope(self):
        self.check([["b", "a"]], ["q"], ["a", "b"])
        self.check([["b", "a"]], ["q", "b", "r"], ["a"])
        self.check([], ["q"], [])

    def test_scopes_without_names(self):
        self.check([[], ["b", "a"], []], [], ["a", "b"])

    def test_each_name_is_counted_once(self):
        # a stands with b alone, however often; d with e and f
        self.check([["d", "e", "f"], ["a", "b"], ["a", "b"], ["b", "a"]], [], ["a", "b", "d", "e", "f"])
        self.check([["a", "a", "b"], ["c", "d"]], [], ["a", "b", "c", "d"])

    def test_what_is_told_is_new(self):
        scopes = [["a", "b"], ["c"]]
        keep = ["b"]
        found = best_order(scopes, keep)
        found.append("q")
        self.assertEqual((scopes, keep), ([["a", "b"], ["c"]], ["b"]))
        self.assertEqual(best_order(scopes, keep), ["c", "a"])

    def test_strewn(self):
        chance = random.Random(9)
        names = ["a", "a1", "ab", "b", "c", "d", "e", "v1", "v10", "v2"]
        for time in range(300):
            scopes = [chance.sample(names, chance.randrange(5)) for number in range(chance.randrange(9))]
            keep = chance.sample(names + ["q"], chance.randrange(4))
            with self.subTest(scopes=scopes, keep=keep):
                self.check(scopes, keep, plain_best_order(scopes, keep))

    def test_four_hundred_scopes(self):
        scopes = [[f"v{number}"] + [f"v{max(0, number - back)}" for back in (1, 2, 7)] for number in range(400)]
        found = best_order(scopes, ["v399"])
        self.assertEqual(sorted(found), sorted(f"v{number}" for number in range(399)))


if __name__ == "__main__":
    unittest.main()
