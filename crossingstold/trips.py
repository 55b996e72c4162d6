"""Trips from one LOOK to another one, no faster than told: where and when a thing can have been; nothing is checked.

The *sum* of a POINT is that of its distances to two places; a thing can have been there just if its sum is at most
reach. Sums are told by the squares of both distances, and compared so, without a root.
"""
from crossingstold.errors import Apart
from crossingstold.needs import need_look, need_patch, need_speed
from crossingstold.plain import fraction_order, in_order, minus, over, plus, times, whole_numbers
from crossingstold.regions import square_between
from crossingstold.shapes import sides_of
from crossingstold.sides import foot, is_inside, line_distance, on_line, within_side
from crossingstold.surds import moved_on, sign_with_root, sign_with_roots, solved, stretched


class Trip:
    """Where a thing started, where it came to, when, how fast it can have gone, and how far between both."""

    def __init__(self, one, other, speed):
        self.begin, self.start = one
        self.end, self.goal = other
        self.speed = speed
        self.reach = times(speed, minus(self.end, self.begin))


def trip_between(one, other, speed):
    """The Trip from one LOOK to another one; Apart((one, other)) if there is none."""
    trip = Trip(one, other, speed)
    if fraction_order(trip.begin, trip.end) >= 0:
        raise Apart((one, other))
    if fraction_order(square_between(trip.start, trip.goal), times(trip.reach, trip.reach)) > 0:
        raise Apart((one, other))
    return trip


def trip_by(one, other, speed, patch):
    """The Trip from one LOOK to another one; raises what can_touch raises."""
    need_look(one)
    need_look(other)
    need_speed(speed)
    need_patch(patch)
    return trip_between(one, other, speed)


def root_of(square):
    """The root of a FRACTION from 0 on, in the form of a MOMENT."""
    return solved(square[1], 0, -square[0], 1)


def distance(one, other):
    """The distance of two POINTS, in the form of a MOMENT."""
    return root_of(square_between(one, other))


def moment_behind(moment, far, speed):
    """The MOMENT at which one comes so far who leaves at this moment."""
    return moved_on(stretched(far, over((1, 1), speed)), moment)


def moment_ahead(moment, far, speed):
    """The MOMENT at which one has to leave who comes so far up to this moment."""
    return moved_on(stretched(far, over((-1, 1), speed)), moment)


def first_at(trip, point):
    """The first MOMENT at which the thing can have come to a POINT."""
    return moment_behind(trip.begin, distance(trip.start, point), trip.speed)


def last_at(trip, point):
    """The last MOMENT at which the thing can have left a POINT."""
    return moment_ahead(trip.end, distance(trip.goal, point), trip.speed)


def sum_of(start, goal, point):
    """The sum of a POINT."""
    return (square_between(start, point), square_between(goal, point))


def sum_order(one, other):
    """-1, 0 or 1: whether the one sum is below the other one, the same, above it."""
    a, b, c, d = whole_numbers((*one, *other))
    # The square of the one is a + b + twice the root of a b, and of the other one likewise.
    return sign_with_roots(a + b - c - d, 2, a * b, -2, c * d)


def reach_order(trip, point):
    """-1, 0 or 1: whether the sum of a POINT is below reach, the same, above it."""
    a, b, c = whole_numbers((*sum_of(trip.start, trip.goal, point), times(trip.reach, trip.reach)))
    return sign_with_root(a + b - c, 2, a * b)


def least_on_line(start, goal, side):
    """The part of a side's line that has the least sum."""
    near, far = line_distance(side, start), line_distance(side, goal)
    one, other = foot(start, side), foot(goal, side)
    if near[0] == 0:
        return one
    # Mirrored to the other side of the line, the goal is come to straight, through this part.
    return plus(one, times(over(near, plus(near, far)), minus(other, one)))


def nearest_spot(start, goal, patch):
    """A POINT of a PATCH with the least sum."""
    for place in (start, goal):
        if is_inside(patch, place):
            return place
    spots = [on_line(side, within_side(least_on_line(start, goal, side))) for side in sides_of(patch)]
    return in_order(spots, lambda one, other: sum_order(sum_of(start, goal, one), sum_of(start, goal, other)))[0]
