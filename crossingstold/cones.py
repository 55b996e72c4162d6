"""When it can be there: all moments between two LOOKS at which a thing can have been in a PATCH, or surely was.

A *crossing* of a side is a pair (part, far): a part of its line (see sides.py), here in the form of a MOMENT, whose sum
is just reach, and how far it is from there to the start. A thing that has to go straight has a leg instead of a trip.
"""
from crossingstold.cuts import in_all
from crossingstold.legs import leg_in
from crossingstold.needs import need_look, need_patch, need_point, need_speed
from crossingstold.plain import minus, over, plus, times, whole_numbers
from crossingstold.regions import region_of, square_between
from crossingstold.shapes import sides_of
from crossingstold.sides import dotted, foot, is_inward, nearest_inside, on_line, vector
from crossingstold.stretches import has
from crossingstold.surds import earlier, moment_order, moved_on, solved, stretched
from crossingstold.trips import (
    Trip, distance, first_at, last_at, moment_ahead, moment_behind, reach_order, trip_between, trip_by)


def when_at(one, other, speed, point):
    """The STRETCHES of all MOMENTS at which it can have been at this POINT."""
    need_look(one)
    need_look(other)
    need_speed(speed)
    need_point(point)
    trip = trip_between(one, other, speed)
    low, high = first_at(trip, point), last_at(trip, point)
    return ((low, True, high, True),) if moment_order(low, high) <= 0 else ()


def backwards(trip):
    """The trip from the goal to the start, as long, and as fast."""
    return Trip((trip.begin, trip.goal), (trip.end, trip.start), trip.speed)


def is_straight(trip):
    """Whether there is just the time to go straight."""
    return square_between(trip.start, trip.goal) == times(trip.reach, trip.reach)


def crossings(trip, side):
    """The crossings of a side's line: two, one told twice, or none; not for a trip that is straight."""
    along, away = vector(*side), vector(trip.start, side[0])
    # The squares of both distances differ by a line, and both distances add up to reach: so far is b s + c in part s.
    b = over(dotted(along, vector(trip.start, trip.goal)), trip.reach)
    differ = minus(dotted(away, away), square_between(trip.goal, side[0]))
    c = over(plus(times(trip.reach, trip.reach), differ), times((2, 1), trip.reach))
    middle = minus(dotted(along, away), times(b, c))
    form = whole_numbers((minus(dotted(along, along), times(b, b)), plus(middle, middle),
                          minus(dotted(away, away), times(c, c))))
    parts = [solved(*form, which) for which in (-1, 1)]
    return [(part, moved_on(stretched(part, b), c)) for part in parts if part is not None]


def least(numbers):
    """The least one of these, in the form of MOMENTS; None if there is none."""
    told = None
    for number in numbers:
        told = number if told is None else earlier(told, number)
    return told


def on_side(part):
    """Whether a part of a side's line lies on the side, its corners too."""
    return moment_order((0, 1), part) <= 0 and moment_order(part, (1, 1)) <= 0


def far_to_patch(trip, patch):
    """How far it is from the start to the nearest spot of the PATCH at which it can have been; None if none is."""
    spot = nearest_inside(trip.start, patch)
    if reach_order(trip, spot) <= 0:
        return distance(trip.start, spot)
    return least([far for side in sides_of(patch) for part, far in crossings(trip, side) if on_side(part)])


def far_to_line(trip, side):
    """How far it is from the start to the nearest spot of a side's line at which the thing can have been, if any is."""
    spot = on_line(side, foot(trip.start, side))
    if reach_order(trip, spot) <= 0:
        return distance(trip.start, spot)
    return least([far for _, far in crossings(trip, side)])


def straight_in(one, other, patch):
    """When it was in the PATCH, if it went straight."""
    return leg_in(region_of(patch), (one, other))


def when_can(one, other, speed, patch):
    """The STRETCHES of all MOMENTS at which it can have been at some spot of the PATCH."""
    trip = trip_by(one, other, speed, patch)
    if is_straight(trip):
        return straight_in(one, other, patch)
    far, back = far_to_patch(trip, patch), far_to_patch(backwards(trip), patch)
    if far is None:
        return ()
    return ((moment_behind(trip.begin, far, speed), True, moment_ahead(trip.end, back, speed), True),)


def surely_inward(trip, side):
    """The STRETCHES of all moments at which it surely was on a side's line, or on the PATCH's side of it."""
    inward, parts = [is_inward(side, place) for place in (trip.start, trip.goal)], crossings(trip, side)
    if inward == [True, True] and (not parts or parts[0] == parts[1]):
        return ((trip.begin, True, trip.end, True),)
    told = []
    # Whoever can be beyond the line can be so from behind the first moment on at which he can be on it.
    if inward[0]:
        told.append((trip.begin, True, moment_behind(trip.begin, far_to_line(trip, side), trip.speed), True))
    if inward[1]:
        told.append((moment_ahead(trip.end, far_to_line(backwards(trip), side), trip.speed), True, trip.end, True))
    return tuple(told)


def surely_in(one, other, speed, patch):
    """The STRETCHES of all MOMENTS at which it was in the PATCH, wherever it went."""
    trip = trip_by(one, other, speed, patch)
    if is_straight(trip):
        return straight_in(one, other, patch)
    return in_all([surely_inward(trip, side) for side in sides_of(patch)])


def can_be_in(one, other, speed, patch, moment):
    """Whether this MOMENT is one of when_can."""
    return has(when_can(one, other, speed, patch), moment)


def is_surely_in(one, other, speed, patch, moment):
    """Whether this MOMENT is one of surely_in."""
    return has(surely_in(one, other, speed, patch), moment)


def earliest(one, speed, patch):
    """The first MOMENT at which it can be at some spot of the PATCH, with no further LOOK."""
    need_look(one)
    need_speed(speed)
    need_patch(patch)
    return moment_behind(one[0], distance(one[1], nearest_inside(one[1], patch)), speed)
