"""Exact numbers: ratios, pairs (top, low) without a common divisor, low above 0, and rows of whole numbers."""

from math import gcd, lcm

ZERO = (0, 1)
ONE = (1, 1)


def is_integer(value):
    """Tell whether a value is an integer; True and False are none."""
    return isinstance(value, int) and not isinstance(value, bool)


def is_between(value, least, most):
    """Tell whether a value is an integer from least to most."""
    return is_integer(value) and least <= value <= most


def is_ratio(value):
    """Tell whether a value is a ratio."""
    if not isinstance(value, tuple) or len(value) != 2:
        return False
    top, low = value
    return is_integer(top) and is_integer(low) and low > 0 and gcd(top, low) == 1


def are_ratios(value, count):
    """Tell whether a value is a tuple of so many ratios."""
    return isinstance(value, tuple) and len(value) == count and all([is_ratio(part) for part in value])


def ratio(top, low):
    """Return top by low, low not 0, in lowest terms."""
    shared = gcd(top, low)
    if low < 0:
        shared = -shared
    return (top // shared, low // shared)


def negative(value):
    """Return 0 less a ratio."""
    return (-value[0], value[1])


def size(value):
    """Return a ratio without its sign."""
    return (abs(value[0]), value[1])


def plus(one, other):
    """Return the sum of two ratios."""
    return ratio(one[0] * other[1] + other[0] * one[1], one[1] * other[1])


def minus(one, other):
    """Return one ratio less another one."""
    return ratio(one[0] * other[1] - other[0] * one[1], one[1] * other[1])


def times(one, other):
    """Return the product of two ratios."""
    return ratio(one[0] * other[0], one[1] * other[1])


def by(one, other):
    """Return one ratio by another one that is not 0."""
    return ratio(one[0] * other[1], one[1] * other[0])


def unit(count, place):
    """Return a row of zeros with a 1 at one place."""
    return [ONE if at == place else ZERO for at in range(count)]


def is_above(one, other):
    """Tell whether one ratio is greater than another one."""
    return one[0] * other[1] > other[0] * one[1]


def total(values):
    """Return the sum of ratios."""
    found = ZERO
    for value in values:
        found = plus(found, value)
    return found


def dot(ones, others):
    """Return the sum of the products of the ratios of two rows."""
    found = ZERO
    for one, other in zip(ones, others):
        # Most rows of a grid's tables are nearly void, so zeros are worth a test of their own.
        if one[0] and other[0]:
            found = plus(found, times(one, other))
    return found


def whole(row):
    """Return (low, numbers): the least low above 0 by which a row of ratios is a row of whole numbers."""
    low = 1
    for part in row:
        low = lcm(low, part[1])
    return low, [part[0] * (low // part[1]) for part in row]


def slim(numbers):
    """Return a row of whole numbers without a divisor that all of them share."""
    shared = 0
    for number in numbers:
        shared = gcd(shared, number)
        if shared == 1:
            return numbers
    if shared == 0:
        return numbers
    return [number // shared for number in numbers]
