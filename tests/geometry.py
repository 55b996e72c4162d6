"""PATCHES, distances, and what can be where between two LOOKS, reckoned another way: by searching, with decimals or floats."""
from decimal import Decimal, localcontext
from fractions import Fraction
from math import hypot, sqrt

from tests.helpers import decimal_of, number, spot, worth

PRECISE = 60


def patch_of(*corners):
    """The PATCH with these corners, pairs of integers or of Python's own fractions."""
    return tuple([spot(x, y) for x, y in corners])


def square_patch(x, y, side):
    """The PATCH of a square, by its least corner."""
    return patch_of((x, y), (x + side, y), (x + side, y + side), (x, y + side))


def hull(places):
    """The corners of the least polygon without dents around some places, against the clock, the least first."""
    def chain(row):
        told = []
        for place in row:
            while len(told) > 1 and cross(told[-2], told[-1], place) <= 0:
                told.pop()
            told.append(place)
        return told[:-1]
    row = sorted(set(places))
    return chain(row) + chain(row[::-1])


def cross(one, two, three):
    """Above 0 if the way by three places turns against the clock."""
    return (two[0] - one[0]) * (three[1] - one[1]) - (two[1] - one[1]) * (three[0] - one[0])


def random_patch(chance, far=6):
    """A PATCH of 3 to 8 corners."""
    while True:
        places = [(Fraction(chance.randint(-far, far), chance.choice([1, 1, 2])), Fraction(chance.randint(-far, far), chance.choice([1, 1, 3])))
                  for _ in range(chance.randint(3, 10))]
        corners = hull(places)
        if 3 <= len(corners) <= 8:
            return patch_of(*corners)


def random_spot(chance, far=7):
    """A POINT."""
    return tuple([number(chance.randint(-far, far), chance.choice([1, 1, 2, 3])) for _ in range(2)])


def places_of(patch):
    """The corners of a PATCH by Python's own fractions."""
    return [(worth(x), worth(y)) for x, y in patch]


def lies_inside(patch, point):
    """Whether a POINT lies in a PATCH, on its rim too."""
    corners, place = places_of(patch), (worth(point[0]), worth(point[1]))
    return all(cross(corners[n - 1], corners[n], place) >= 0 for n in range(len(corners)))


def far_between(one, other):
    """The distance of two POINTS as a decimal."""
    with localcontext() as context:
        context.prec = PRECISE
        square = sum((worth(p) - worth(q)) ** 2 for p, q in zip(one, other))
        return (Decimal(square.numerator) / Decimal(square.denominator)).sqrt()


def sum_at(point, one, other):
    """The sum of the distances of a POINT to two others, as a decimal."""
    with localcontext() as context:
        context.prec = PRECISE
        return far_between(point, one) + far_between(point, other)


def floats(point):
    """A POINT as floats."""
    return (float(worth(point[0])), float(worth(point[1])))


def least_along(worth_at, low=0.0, high=1.0, many=90):
    """The least worth between low and high of what first falls, then rises."""
    for _ in range(many):
        one, two = low + (high - low) / 3, high - (high - low) / 3
        if worth_at(one) <= worth_at(two):
            high = two
        else:
            low = one
    return worth_at((low + high) / 2)


def least_on_rim(patch, worth_at):
    """The least worth of a place on the rim of a PATCH, for what has no dents."""
    corners = [floats(corner) for corner in patch]
    told = []
    for n in range(len(corners)):
        (x, y), (v, w) = corners[n - 1], corners[n]
        told.append(least_along(lambda part: worth_at(x + part * (v - x), y + part * (w - y))))
    return min(told)


def least_sum(point, goal, patch):
    """The least sum of distances of a place in a PATCH to both, as a float."""
    (a, b), (c, d) = floats(point), floats(goal)
    least = least_on_rim(patch, lambda x, y: hypot(x - a, y - b) + hypot(x - c, y - d))
    if lies_inside(patch, point) or lies_inside(patch, goal):
        least = min(least, hypot(a - c, b - d))
    return least


def radii(one, other, speed, moment):
    """How far it can be from both looks at a moment, as floats."""
    v, t = float(worth(speed)), float(moment)
    return v * (t - float(worth(one[0]))), v * (float(worth(other[0])) - t)


def margin_of_can(one, other, speed, patch, moment):
    """At most 0 if the thing can be in the PATCH at this moment, and above 0 if it can't: a float."""
    near, far = radii(one, other, speed, moment)
    (a, b), (c, d) = floats(one[1]), floats(other[1])
    straight = hypot(a - c, b - d)
    part = min(1.0, near / straight) if straight else 0.0
    corners = [floats(corner) for corner in patch]
    # This place it can always be at; otherwise what it can be at has to reach over the rim.
    middle = (a + part * (c - a), b + part * (d - b))
    depth = max(-cross(corners[n - 1], corners[n], middle) for n in range(len(corners)))
    return min(depth, least_on_rim(patch, lambda x, y: max(hypot(x - a, y - b) - near, hypot(x - c, y - d) - far)))


def farthest(one, other, near, far, along):
    """How far in a direction, a vector that is 1 long, one can be within two discs that meet: a float."""
    (a, b), (c, d), (x, y) = one, other, along
    told = []
    for p, q, r in ((a, b, near), (c, d, far)):
        place = (p + r * x, q + r * y)
        if hypot(place[0] - a, place[1] - b) <= near + 1e-12 and hypot(place[0] - c, place[1] - d) <= far + 1e-12:
            told.append(place)
    apart = hypot(c - a, d - b)
    if apart and apart >= abs(near - far):
        gone = (apart * apart + near * near - far * far) / (2 * apart)
        high = sqrt(max(0.0, near * near - gone * gone))
        for side in (-1, 1):
            told.append((a + (gone * (c - a) - side * high * (d - b)) / apart, b + (gone * (d - b) + side * high * (c - a)) / apart))
    return max(p * x + q * y for p, q in told)


def margin_of_surely(one, other, speed, patch, moment):
    """At most 0 if the thing is in the PATCH at this moment wherever it went, above 0 if it may be out of it: a float."""
    near, far = radii(one, other, speed, moment)
    corners = [floats(corner) for corner in patch]
    told = []
    for n in range(len(corners)):
        (x, y), (v, w) = corners[n - 1], corners[n]
        long = hypot(v - x, w - y)
        out = ((w - y) / long, (x - v) / long)
        told.append(farthest(floats(one[1]), floats(other[1]), near, far, out) - (x * out[0] + y * out[1]))
    return max(told)


def as_float(moment):
    """A MOMENT as a float."""
    return float(decimal_of(moment))
