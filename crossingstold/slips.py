"""WAYS on which a stay in a PATCH goes unseen; nothing is checked."""
from crossingstold.legs import legs_of, square_speed, way_in
from crossingstold.moments import between
from crossingstold.plain import fraction_order, minus, over, plus, times
from crossingstold.regions import region_of
from crossingstold.sides import dotted, is_inside, led, nearest_on, nearest_side, outward, scaled_by
from crossingstold.stretches import lasts
from crossingstold.surds import moment_order
from crossingstold.trips import distance, moment_behind


def first_too_fast(way, speed):
    """The number of the first leg of a WAY on which it goes faster than speed; None if there is none."""
    most = times(speed, speed)
    fast = [n for n, leg in enumerate(legs_of(way)) if fraction_order(square_speed(leg), most) > 0]
    return fast[0] if fast else None


def out_by(side, far):
    """A vector across a side, away from the PATCH, at most far long, for a FRACTION above 0."""
    along = outward(side)
    # No number is above its square and 1.
    return scaled_by(over(far, plus(dotted(along, along), (1, 1))), along)


def slipping_way(look, speed, patch, length, later):
    """A WAY from the LOOK to the moment later, which is above next_look, with a stay so long in the PATCH unseen."""
    begin, point = look
    side = nearest_side(point, patch)
    rim = nearest_on(side, point)
    leave = minus(later, length)
    told = [look, (between(moment_behind(begin, distance(point, rim), speed), leave), rim)]
    part = times((1, 4), minus(leave, told[-1][0]))
    out = led(rim, out_by(side, times(speed, part)))
    if is_inside(patch, point):
        # The stay that the LOOK saw has to end, ahead of the one that is unseen.
        told.append((plus(told[-1][0], part), out))
        told.append((plus(told[-1][0], part), rim))
    if length != (0, 1):
        told.append((plus(told[-1][0], length), rim))
    return (*told, (later, out))


def slips(way, look, speed, patch, length, later):
    """Whether a WAY goes from the LOOK to the moment later, no faster than speed, with a stay so long in it unseen."""
    if way[0] != look or way[-1][0] != later or first_too_fast(way, speed) is not None:
        return False
    stays = way_in(region_of(patch), way)
    unseen = [stay for stay in stays if moment_order(look[0], stay[0]) < 0 and moment_order(stay[2], later) < 0]
    return lasts(tuple(unseen), length)
