"""Integers, FRACTIONS and POINTS: what is one, and how they are reckoned with."""
from math import gcd, lcm


def is_integer(value):
    """Whether value is an int that is not a bool."""
    return isinstance(value, int) and not isinstance(value, bool)


def are_integers(values):
    """Whether all of these are integers."""
    return all([is_integer(value) for value in values])


def is_fraction(value):
    """Whether value is a FRACTION."""
    if not isinstance(value, tuple) or len(value) != 2 or not are_integers(value):
        return False
    top, bottom = value
    return bottom >= 1 and gcd(top, bottom) == 1


def is_from_zero(value):
    """Whether value is a FRACTION from 0 on: a LENGTH, or a SQUARE."""
    return is_fraction(value) and value[0] >= 0


def is_above_zero(value):
    """Whether value is a FRACTION above 0: a SPEED, or a step."""
    return is_fraction(value) and value[0] > 0


def is_point(value):
    """Whether value is a POINT."""
    return isinstance(value, tuple) and len(value) == 2 and is_fraction(value[0]) and is_fraction(value[1])


def sign(number):
    """-1, 0 or 1: the sign of an integer."""
    if number > 0:
        return 1
    if number < 0:
        return -1
    return 0


def lowest(top, bottom):
    """The FRACTION top / bottom; bottom is not 0."""
    shared = gcd(top, bottom)
    if bottom < 0:
        shared = -shared
    return (top // shared, bottom // shared)


def plus(one, other):
    """The sum of two FRACTIONS."""
    return lowest(one[0] * other[1] + other[0] * one[1], one[1] * other[1])


def minus(one, other):
    """What the one FRACTION is more than the other one."""
    return lowest(one[0] * other[1] - other[0] * one[1], one[1] * other[1])


def times(one, other):
    """The product of two FRACTIONS."""
    return lowest(one[0] * other[0], one[1] * other[1])


def over(one, other):
    """The one FRACTION through the other one, which is not 0."""
    return lowest(one[0] * other[1], one[1] * other[0])


def whole_numbers(fractions):
    """Integers in the place of these FRACTIONS, all times the same integer above 0."""
    shared = 1
    for _, bottom in fractions:
        shared = lcm(shared, bottom)
    return [top * (shared // bottom) for top, bottom in fractions]


def fraction_order(one, other):
    """-1, 0 or 1: whether the one FRACTION is below the other one, the same, above it."""
    return sign(one[0] * other[1] - other[0] * one[1])


def in_order(rows, compare):
    """A new list of rows, sorted by compare, which tells -1, 0 or 1 of two of them."""
    placed = []
    for row in rows:
        low, high = 0, len(placed)
        while low < high:
            middle = (low + high) // 2
            if compare(placed[middle], row) <= 0:
                low = middle + 1
            else:
                high = middle
        placed.insert(low, row)
    return placed
