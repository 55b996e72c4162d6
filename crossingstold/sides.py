"""Sides of PATCHES, and what lies nearest on them; nothing is checked.

A *vector* is a pair of FRACTIONS (x, y). A side is a pair of POINTS, the PATCH on its left; a *part* of it is a
FRACTION that tells a POINT on the side's line, which has no ends: 0 its first corner, 1 its second one.
"""
from crossingstold.plain import fraction_order, in_order, minus, over, plus, times
from crossingstold.regions import square_between
from crossingstold.shapes import sides_of, turn


def vector(one, other):
    """The vector from one POINT to the other one."""
    return (minus(other[0], one[0]), minus(other[1], one[1]))


def dotted(one, other):
    """x times x and y times y, added up, for two vectors."""
    return plus(times(one[0], other[0]), times(one[1], other[1]))


def scaled_by(fraction, along):
    """A vector times a FRACTION."""
    return (times(fraction, along[0]), times(fraction, along[1]))


def led(point, along):
    """The POINT to which a vector leads from this one."""
    return (plus(point[0], along[0]), plus(point[1], along[1]))


def on_line(side, part):
    """The POINT that a part of a side tells."""
    return led(side[0], scaled_by(part, vector(*side)))


def foot(point, side):
    """The part of a side's line that is nearest to a POINT."""
    along = vector(*side)
    return over(dotted(vector(side[0], point), along), dotted(along, along))


def within_side(part):
    """The part of a side, its corners too, that is nearest to this part of its line."""
    if part[0] < 0:
        return (0, 1)
    if fraction_order(part, (1, 1)) > 0:
        return (1, 1)
    return part


def outward(side):
    """A vector across a side, away from the PATCH, as long as the side."""
    across, up = vector(*side)
    return (up, minus((0, 1), across))


def line_distance(side, point):
    """How far a POINT is from a side's line, as a FRACTION that is the same times as much for all POINTS."""
    top, bottom = turn(side[0], side[1], point)
    return (abs(top), bottom)


def is_inward(side, point):
    """Whether a POINT lies on the left of a side's line, or on it."""
    return turn(side[0], side[1], point)[0] >= 0


def is_inside(patch, point):
    """Whether a POINT lies in a PATCH, on its rim too."""
    return all([is_inward(side, point) for side in sides_of(patch)])


def nearest_on(side, point):
    """The POINT of a side, its corners too, that is nearest to this one."""
    return on_line(side, within_side(foot(point, side)))


def side_square(side, point):
    """The square of the distance from a POINT to the nearest one of a side."""
    return square_between(point, nearest_on(side, point))


def nearest_side(point, patch):
    """The first side of a PATCH that is nearest to a POINT."""
    squares = [side_square(side, point) for side in sides_of(patch)]
    return sides_of(patch)[squares.index(in_order(squares, fraction_order)[0])]


def nearest_on_rim(point, patch):
    """The POINT of a PATCH's rim that is nearest to this one, on the first such side."""
    return nearest_on(nearest_side(point, patch), point)


def nearest_inside(point, patch):
    """The POINT of a PATCH that is nearest to this one."""
    if is_inside(patch, point):
        return point
    return nearest_on_rim(point, patch)


def rim_square(point, patch):
    """The square of the distance from a POINT to the nearest one of a PATCH's rim."""
    return side_square(nearest_side(point, patch), point)
