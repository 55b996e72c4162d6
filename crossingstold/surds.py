"""MOMENTS as they are reckoned with, by functions that check nothing.

A MOMENT is read here as a *surd*: four integers (x, y, d, k), k from 1 on, d from 0 on,
that stand for the number (x + y * the square root of d) / k.
"""
from math import gcd, isqrt

from crossingstold.plain import are_integers, is_fraction, lowest, plus, sign, times


def is_root(value):
    """Whether value is a ROOT."""
    if not isinstance(value, tuple) or len(value) != 4 or not are_integers(value):
        return False
    a, b, c, side = value
    if a < 1 or side not in (-1, 1) or gcd(gcd(a, b), c) != 1:
        return False
    under = b * b - 4 * a * c
    return under > 0 and isqrt(under) ** 2 != under


def is_moment(value):
    """Whether value is a MOMENT."""
    return is_fraction(value) or is_root(value)


def solved(a, b, c, side):
    """The lesser or greater solution of a t t + b t + c = 0 as a MOMENT; None if there is none."""
    if a == 0:
        return lowest(-c, b)
    under = b * b - 4 * a * c
    if under < 0:
        return None
    if a < 0:
        # Otherwise the formula's greater solution would be the lesser one.
        a, b, c = -a, -b, -c
    whole = isqrt(under)
    if whole * whole == under:
        return lowest(side * whole - b, 2 * a)
    shared = gcd(gcd(a, b), c)
    return (a // shared, b // shared, c // shared, side)


def surd_of(moment):
    """The surd that a MOMENT is."""
    if len(moment) == 2:
        return (moment[0], 0, 1, moment[1])
    a, b, c, side = moment
    return (-b, side, b * b - 4 * a * c, 2 * a)


def signed_square(number):
    """The square of an integer, with the integer's sign: it grows just as the integer does."""
    return number * abs(number)


def sign_with_root(x, y, d):
    """The sign of x + y * the square root of d."""
    return sign(signed_square(x) + signed_square(y) * d)


def sign_with_roots(x, y, d, z, e):
    """The sign of x + y * the square root of d + z * the square root of e."""
    # With signed squares, x against the rest of the sum: just one root is left.
    rest = sign(signed_square(y) * d + signed_square(z) * e)
    return sign_with_root(signed_square(x) + rest * (y * y * d + z * z * e), rest * 2 * y * z, d * e)


def moment_order(one, other):
    """-1, 0 or 1: whether the one MOMENT is below the other one, the same, above it."""
    if one == other:
        return 0
    x, y, d, k = surd_of(one)
    z, v, e, m = surd_of(other)
    return sign_with_roots(x * m - z * k, y * m, d, -v * k, e)


def earlier(one, other):
    """The lesser one of two MOMENTS."""
    return one if moment_order(one, other) <= 0 else other


def later(one, other):
    """The greater one of two MOMENTS."""
    return one if moment_order(one, other) >= 0 else other


def form_sign(a, b, c, moment):
    """The sign of a t t + b t + c, t being the MOMENT."""
    x, y, d, k = surd_of(moment)
    return sign_with_root(a * (x * x + y * y * d) + b * k * x + c * k * k, 2 * a * x * y + b * k * y, d)


def whole_parts(moment, parts):
    """The greatest integer not above the MOMENT times parts, an integer from 1 on."""
    x, y, d, k = surd_of(moment)
    x, d = x * parts, d * parts * parts
    if y == 0:
        return x // k
    if y > 0:
        return (x + isqrt(d)) // k
    # The root of d is no integer: minus it lies one further down.
    return (x - isqrt(d) - 1) // k


def moved_on(moment, by):
    """The MOMENT that is by, a FRACTION, more."""
    if len(moment) == 2:
        return plus(moment, by)
    a, b, c, side = moment
    top, bottom = by
    return solved(a * bottom * bottom,
                  b * bottom * bottom - 2 * a * top * bottom,
                  a * top * top - b * top * bottom + c * bottom * bottom, side)


def stretched(moment, by):
    """The MOMENT that is by, a FRACTION, times as much."""
    if len(moment) == 2:
        return times(moment, by)
    a, b, c, side = moment
    top, bottom = by
    if top == 0:
        return (0, 1)
    return solved(a * bottom * bottom, b * top * bottom, c * top * top, side * sign(top))
