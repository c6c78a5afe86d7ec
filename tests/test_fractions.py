"""Divisors and fractions [4] [5]."""

import math
import unittest
from fractions import Fraction

from fairdraw.errors import NoFraction
from fairdraw.fractions import divisor, fraction, minus, over, plus, times, total

SMALL = range(-13, 14)
SOME = [
    (0, 1), (1, 1), (-1, 1), (1, 2), (-1, 2), (2, 3), (-2, 3), (3, 4), (5, 6), (-5, 6),
    (7, 12), (-11, 8), (40, 1), (-9, 14), (10 ** 9 - 1, 10 ** 9 - 3), (-(10 ** 40), 3 ** 50),
]
NO_WHOLES = [
    None, True, False, "", "1", "a", [], [1], (), (1,), (1, 2), {}, {1: 1}, {1}, 1.0, 0.5,
    2j, b"1", Fraction(1, 2), object(), int, len,
]


def as_tuple(one):
    return (one.numerator, one.denominator)


class Divisor(unittest.TestCase):
    def test_small_numbers_of_all_signs(self):
        for one in SMALL:
            for other in SMALL:
                with self.subTest(one=one, other=other):
                    self.assertEqual(divisor(one, other), math.gcd(one, other))

    def test_told_pairs(self):
        for one, other in [(12, 18), (-12, 18), (12, -18), (-12, -18), (18, 12), (-18, -12)]:
            self.assertEqual(divisor(one, other), 6)
        self.assertEqual(divisor(17, 5), 1)
        self.assertEqual(divisor(7, 7), 7)
        self.assertEqual(divisor(-7, 7), 7)

    def test_zeros(self):
        self.assertEqual(divisor(0, 0), 0)
        for one in (1, 5, 10 ** 30):
            self.assertEqual(divisor(0, one), one)
            self.assertEqual(divisor(one, 0), one)
            self.assertEqual(divisor(0, -one), one)
            self.assertEqual(divisor(-one, 0), one)

    def test_a_thousand_figures(self):
        great = 10 ** 999
        self.assertEqual(divisor(great, great), great)
        self.assertEqual(divisor(-great, 0), great)
        self.assertEqual(divisor(0, -great), great)
        self.assertEqual(divisor(6 * 7 ** 1000, -4 * 7 ** 900), 2 * 7 ** 900)
        self.assertEqual(divisor(great, great - 1), 1)

    def test_the_longest_way_of_a_thousand_figures(self):
        # neighbours of this row take the most steps of all numbers of their size
        one, other = 1, 1
        while other < 10 ** 999:
            one, other = other, one + other
        self.assertEqual(divisor(one, other), 1)
        self.assertEqual(divisor(-one, other), 1)

    def test_told_as_a_whole_number(self):
        for one, other in [(0, 0), (0, 1), (1, 1), (-1, 0)]:
            self.assertIs(divisor(one, other).__class__, int)


class Made(unittest.TestCase):
    def test_small_numbers_of_all_signs(self):
        for top in SMALL:
            for bottom in SMALL:
                if bottom == 0:
                    continue
                with self.subTest(top=top, bottom=bottom):
                    made = fraction(top, bottom)
                    self.assertEqual(made, as_tuple(Fraction(top, bottom)))
                    self.assertGreaterEqual(made[1], 1)
                    self.assertEqual(math.gcd(made[0], made[1]), 1)

    def test_four_pairs_of_signs(self):
        self.assertEqual(fraction(6, 4), (3, 2))
        self.assertEqual(fraction(-6, 4), (-3, 2))
        self.assertEqual(fraction(6, -4), (-3, 2))
        self.assertEqual(fraction(-6, -4), (3, 2))

    def test_a_top_of_nothing(self):
        for bottom in (1, -1, 2, -2, 60, -(10 ** 999)):
            self.assertEqual(fraction(0, bottom), (0, 1))

    def test_a_tuple_of_two_whole_numbers(self):
        for top, bottom in [(0, 3), (3, 3), (-3, 3), (3, -3), (4, 6), (1, 1)]:
            made = fraction(top, bottom)
            self.assertIs(made.__class__, tuple)
            self.assertEqual([part.__class__ for part in made], [int, int])

    def test_a_thousand_figures(self):
        great = 10 ** 999
        self.assertEqual(fraction(great, -great), (-1, 1))
        self.assertEqual(fraction(2 * 7 ** 1000, 6 * 7 ** 999), (7, 3))
        self.assertEqual(fraction(-great, great - 1), (-great, great - 1))

    def test_a_bottom_of_nothing_is_refused(self):
        for top in (0, 1, -1, 7, 10 ** 999):
            self.assertRaises(NoFraction, fraction, top, 0)

    def test_what_is_no_whole_number_is_refused(self):
        for thing in NO_WHOLES:
            for whole in (0, 1, -3):
                with self.subTest(thing=repr(thing), whole=whole):
                    self.assertRaises(NoFraction, fraction, thing, whole)
                    self.assertRaises(NoFraction, fraction, whole, thing)
            self.assertRaises(NoFraction, fraction, thing, thing)


class Reckoned(unittest.TestCase):
    def check(self, told, expected):
        self.assertIs(told.__class__, tuple)
        self.assertEqual(told, as_tuple(expected))

    def test_sums_differences_products(self):
        for one in SOME:
            for other in SOME:
                with self.subTest(one=one, other=other):
                    first, second = Fraction(*one), Fraction(*other)
                    self.check(plus(one, other), first + second)
                    self.check(minus(one, other), first - second)
                    self.check(times(one, other), first * second)

    def test_quotients(self):
        for one in SOME:
            for other in SOME:
                if other == (0, 1):
                    continue
                with self.subTest(one=one, other=other):
                    self.check(over(one, other), Fraction(*one) / Fraction(*other))

    def test_told_results(self):
        self.assertEqual(plus((1, 6), (1, 3)), (1, 2))
        self.assertEqual(plus((1, 2), (-1, 2)), (0, 1))
        self.assertEqual(minus((1, 2), (1, 3)), (1, 6))
        self.assertEqual(minus((1, 3), (1, 2)), (-1, 6))
        self.assertEqual(times((2, 3), (-3, 4)), (-1, 2))
        self.assertEqual(times((0, 1), (-3, 4)), (0, 1))
        self.assertEqual(over((1, 2), (3, 4)), (2, 3))

    def test_a_quotient_by_one_below_nothing(self):
        self.assertEqual(over((1, 2), (-3, 4)), (-2, 3))
        self.assertEqual(over((-1, 2), (-3, 4)), (2, 3))
        self.assertEqual(over((0, 1), (-3, 4)), (0, 1))

    def test_a_quotient_by_nothing_is_refused(self):
        for one in SOME:
            self.assertRaises(NoFraction, over, one, (0, 1))

    def test_a_thousand_figures(self):
        great = 10 ** 999
        one, other = (great, great - 1), (-(great - 1), great)
        self.assertEqual(times(one, other), (-1, 1))
        self.check(plus(one, other), Fraction(*one) + Fraction(*other))
        self.check(minus(one, other), Fraction(*one) - Fraction(*other))
        self.check(over(one, other), Fraction(*one) / Fraction(*other))


class Total(unittest.TestCase):
    def test_of_none(self):
        self.assertEqual(total([]), (0, 1))

    def test_of_one(self):
        for one in SOME:
            self.assertEqual(total([one]), one)

    def test_of_many(self):
        self.assertEqual(total([(1, 2), (1, 3), (1, 6)]), (1, 1))
        self.assertEqual(total([(1, 2), (-1, 3), (-1, 6)]), (0, 1))
        self.assertEqual(total([(-1, 2), (-1, 3), (-1, 6), (1, 4)]), (-3, 4))
        self.assertEqual(total([(1, 4)] * 6), (3, 2))
        self.assertEqual(total(SOME), as_tuple(sum([Fraction(*one) for one in SOME])))
        self.assertEqual(total([(1, k) for k in range(1, 200)]),
                         as_tuple(sum([Fraction(1, k) for k in range(1, 200)])))

    def test_what_is_handed_in_stays(self):
        handed = [(1, 2), (-1, 3), (0, 1)]
        total(handed)
        self.assertEqual(handed, [(1, 2), (-1, 3), (0, 1)])
        none = []
        total(none)
        self.assertEqual(none, [])


if __name__ == "__main__":
    unittest.main()
