"""Unseen: whether a thing can have been in a PATCH between two LOOKS, with a place and a moment, or a paper."""
from math import isqrt

from crossingstold.errors import NotIn
from crossingstold.needs import need_patch, need_point
from crossingstold.plain import fraction_order, is_point, lowest, plus
from crossingstold.shapes import sides_of
from crossingstold.sides import dotted, is_inside, led, on_line, outward, scaled_by, vector
from crossingstold.surds import is_moment, moment_order
from crossingstold.trips import (
    first_at, last_at, least_on_line, nearest_spot, reach_order, sum_of, sum_order, trip_by)


def need_places(point, goal, patch):
    """Raises what nearest raises."""
    need_point(point)
    need_point(goal)
    need_patch(patch)


def nearest(point, goal, patch):
    """A POINT of the PATCH whose distances to point and to goal have the least sum."""
    need_places(point, goal, patch)
    return nearest_spot(point, goal, patch)


def shows_nearest(point, goal, patch, value):
    """Whether value is a POINT that nearest may tell."""
    need_places(point, goal, patch)
    if not is_point(value) or not is_inside(patch, value):
        return False
    least = nearest_spot(point, goal, patch)
    return sum_order(sum_of(point, goal, value), sum_of(point, goal, least)) == 0


def touched(trip, patch):
    """A POINT of the PATCH at which the thing can have been; None if there is none."""
    spot = nearest_spot(trip.start, trip.goal, patch)
    return spot if reach_order(trip, spot) <= 0 else None


def is_pair(value):
    """Whether value is a tuple of two."""
    return isinstance(value, tuple) and len(value) == 2


def can_be_then(trip, value):
    """Whether value is a pair of a POINT and a MOMENT at which the thing can have been there."""
    if not is_pair(value) or not is_point(value[0]) or not is_moment(value[1]):
        return False
    spot, moment = value
    return moment_order(first_at(trip, spot), moment) <= 0 and moment_order(moment, last_at(trip, spot)) <= 0


def can_touch(one, other, speed, patch):
    """A POINT of the PATCH, and a MOMENT at which it can have been there; None if there is none."""
    trip = trip_by(one, other, speed, patch)
    spot = touched(trip, patch)
    return None if spot is None else (spot, first_at(trip, spot))


def shows_can_touch(one, other, speed, patch, value):
    """Whether value is something that can_touch may tell."""
    trip = trip_by(one, other, speed, patch)
    if touched(trip, patch) is None:
        return value is None
    return can_be_then(trip, value) and is_inside(patch, value[0])


def shortened(along, n):
    """A vector, not of 0 and 0, made 1 long or just a little less, the less the greater n is."""
    top, bottom = dotted(along, along)
    return scaled_by(lowest(isqrt(top * bottom << 2 * n), top << n), along)


def tells(vectors, trip, corner):
    """The FRACTION that a pair of vectors tells of a corner: how far it is there and on to the goal, or less."""
    first, second = vectors
    return plus(dotted(first, vector(trip.start, corner)), dotted(second, vector(trip.goal, corner)))


def is_paper(vectors, trip, patch):
    """Whether what two vectors tell is above reach at each corner of the PATCH."""
    return all([fraction_order(tells(vectors, trip, corner), trip.reach) > 0 for corner in patch])


def vectors_to(trip, spot, n):
    """The vectors to a POINT from where the thing started, and from where it came to, shortened."""
    return (shortened(vector(trip.start, spot), n), shortened(vector(trip.goal, spot), n))


def paper(one, other, speed, patch):
    """Two vectors that show that it can't have been in the PATCH; None if it can."""
    trip = trip_by(one, other, speed, patch)
    spot = nearest_spot(trip.start, trip.goal, patch)
    if reach_order(trip, spot) <= 0:
        return None
    n = 1
    # Just 1 long, the vectors tell the whole sum of this spot, and of no corner less: all above reach.
    while not is_paper(vectors_to(trip, spot, n), trip, patch):
        n = 2 * n
    return vectors_to(trip, spot, n)


def is_vector(value):
    """Whether value is a vector that is at most 1 long."""
    return is_point(value) and fraction_order(dotted(value, value), (1, 1)) <= 0


def shows_paper(one, other, speed, patch, value):
    """Whether value is something that paper may tell."""
    trip = trip_by(one, other, speed, patch)
    if touched(trip, patch) is not None:
        return value is None
    return is_pair(value) and is_vector(value[0]) and is_vector(value[1]) and is_paper(value, trip, patch)


def trip_within(one, other, speed, patch):
    """The Trip from one LOOK to another one; raises what can_leave raises."""
    trip = trip_by(one, other, speed, patch)
    for look in (one, other):
        if not is_inside(patch, look[1]):
            raise NotIn(look)
    return trip


def left(trip, patch):
    """A POINT out of the PATCH at which the thing can have been; None if there is none."""
    for side in sides_of(patch):
        spot = on_line(side, least_on_line(trip.start, trip.goal, side))
        if reach_order(trip, spot) < 0:
            along = outward(side)
            while reach_order(trip, led(spot, along)) > 0:
                along = scaled_by((1, 2), along)
            return led(spot, along)
    return None


def can_leave(one, other, speed, patch):
    """A POINT out of the PATCH, and a MOMENT at which it can have been there; None if there is none."""
    trip = trip_within(one, other, speed, patch)
    spot = left(trip, patch)
    return None if spot is None else (spot, first_at(trip, spot))


def shows_can_leave(one, other, speed, patch, value):
    """Whether value is something that can_leave may tell."""
    trip = trip_within(one, other, speed, patch)
    if left(trip, patch) is None:
        return value is None
    return can_be_then(trip, value) and not is_inside(patch, value[0])
