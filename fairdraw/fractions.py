"""Exact fractions: tuples (top, bottom) in lowest terms, bottom from 1 on [4] [5]."""

from fairdraw.errors import NoFraction


def divisor(one, other):
    """The greatest whole number that divides both, from 0 on."""
    one = abs(one)
    other = abs(other)
    while other != 0:
        rest = one % other
        one = other
        other = rest
    return one


def is_whole(thing):
    """Whether it is a whole number; Python counts the truths as ints, the document does not."""
    return isinstance(thing, int) and not isinstance(thing, bool)


def fraction(top, bottom):
    """The fraction of two whole numbers, the second not 0."""
    if not is_whole(top) or not is_whole(bottom):
        raise NoFraction()
    if bottom == 0:
        raise NoFraction()
    common = divisor(top, bottom)
    # dividing by a number below 0 brings the sign from the bottom to the top
    if bottom < 0:
        common = -common
    return (top // common, bottom // common)


def plus(one, other):
    """The sum of two fractions."""
    common = divisor(one[1], other[1])
    own = one[1] // common
    others = other[1] // common
    # a number that divides one bottom alone does not divide the sum, so only what is common to both can go;
    # to seek it there is quicker than in the whole sum
    rest = fraction(one[0] * others + other[0] * own, common)
    return (rest[0], rest[1] * own * others)


def minus(one, other):
    """The difference of two fractions."""
    return fraction(one[0] * other[1] - other[0] * one[1], one[1] * other[1])


def times(one, other):
    """The product of two fractions."""
    # each is in lowest terms, so a top has something in common with the other's bottom alone;
    # to seek it there is quick where one of the two is small
    left = fraction(one[0], other[1])
    right = fraction(other[0], one[1])
    return (left[0] * right[0], left[1] * right[1])


def over(one, other):
    """The quotient of two fractions; one by (0, 1) has a bottom of 0, which is refused."""
    return fraction(one[0] * other[1], one[1] * other[0])


def total(some):
    """The sum of a list of fractions, of none (0, 1)."""
    so_far = fraction(0, 1)
    for one in some:
        so_far = plus(so_far, one)
    return so_far
