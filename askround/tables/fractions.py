"""Fractions, as pairs of whole numbers in lowest terms."""

from math import gcd

from askround.words.kinds import is_whole

ZERO = (0, 1)
ONE = (1, 1)


def is_fraction(thing):
    """Whether a thing is a fraction."""
    if not isinstance(thing, tuple) or len(thing) != 2:
        return False
    p, q = thing
    return is_whole(p) and is_whole(q) and q >= 1 and gcd(p, q) == 1


def fraction(p, q):
    """The fraction that p by q is; q isn't 0."""
    shared = gcd(p, q) if q > 0 else -gcd(p, q)
    return (p // shared, q // shared)


def plus(one, other):
    """The sum of two fractions."""
    return fraction(one[0] * other[1] + other[0] * one[1], one[1] * other[1])


def sum_of(parts):
    """The sum of a list or a tuple of fractions."""
    total = ZERO
    for part in parts:
        total = plus(total, part)
    return total
