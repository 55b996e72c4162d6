"""Next looks: when one has to look again, so that no stay in a PATCH goes unseen."""
from crossingstold.errors import BadStep, TooFast, TooSoon
from crossingstold.kinds import is_way
from crossingstold.legs import place_at
from crossingstold.needs import need_length, need_look, need_patch, need_patches, need_point, need_speed, need_way
from crossingstold.plain import fraction_order, is_above_zero, is_fraction, is_integer, minus, over, plus, times
from crossingstold.sides import nearest_on_rim, rim_square
from crossingstold.slips import first_too_fast, slipping_way, slips
from crossingstold.surds import moment_order, moved_on, stretched, whole_parts
from crossingstold.trips import distance, moment_behind
from crossingstold.ways import leg_at

MOST_STEPS = 200


def rim_distance(point, patch):
    """The square of the distance from point to the nearest POINT of the rim of the PATCH."""
    need_point(point)
    need_patch(patch)
    return rim_square(point, patch)


def need_looking(look, speed, patches, length):
    """Raises what next_look raises."""
    need_look(look)
    need_speed(speed)
    need_patches(patches)
    need_length(length)


def nearest_number(point, patches):
    """The number of the first PATCH whose rim is nearest."""
    squares = [rim_square(point, patch) for patch in patches]
    told = 0
    for n in range(1, len(patches)):
        if fraction_order(squares[n], squares[told]) < 0:
            told = n
    return told


def due(look, speed, patches, length):
    """What next_look tells, of values that are checked."""
    moment, point = look
    rim = nearest_on_rim(point, patches[nearest_number(point, patches)])
    return moved_on(moment_behind(moment, distance(point, rim), speed), length)


def next_look(look, speed, patches, length):
    """The latest MOMENT at which one can look again, and no stay so long can have been unseen meanwhile."""
    need_looking(look, speed, patches, length)
    return due(look, speed, patches, length)


def next_by(look, speed, patches, length):
    """The number of the first PATCH whose rim is nearest."""
    need_looking(look, speed, patches, length)
    return nearest_number(look[1], patches)


def need_slipping(look, speed, patches, length, later):
    """Raises what slipped raises."""
    need_looking(look, speed, patches, length)
    if not is_fraction(later) or moment_order(later, due(look, speed, patches, length)) <= 0:
        raise TooSoon(later)


def slipped(look, speed, patches, length, later):
    """(number, WAY): a PATCH, and a WAY from the LOOK to the moment later with a stay so long in it that is unseen."""
    need_slipping(look, speed, patches, length, later)
    number = nearest_number(look[1], patches)
    return (number, slipping_way(look, speed, patches[number], length, later))


def shows_slipped(look, speed, patches, length, later, value):
    """Whether value is something that slipped may tell."""
    need_slipping(look, speed, patches, length, later)
    if not isinstance(value, tuple) or len(value) != 2:
        return False
    number, way = value
    if not is_integer(number) or not 0 <= number < len(patches) or not is_way(way):
        return False
    return slips(way, look, speed, patches[number], length, later)


def is_step(step, way, length):
    """Whether one can look along the WAY with this step."""
    if not is_above_zero(step) or fraction_order(step, length) > 0:
        return False
    return fraction_order(minus(way[-1][0], way[0][0]), times((MOST_STEPS, 1), step)) <= 0


def latest_step(begin, step, moment):
    """The latest moment of whole steps behind begin that is not above this MOMENT."""
    many = whole_parts(stretched(moved_on(moment, minus((0, 1), begin)), over((1, 1), step)), 1)
    return plus(begin, times((many, 1), step))


def plan(way, speed, patches, length, step):
    """The moments of the LOOKS at the thing as it goes on this WAY, each as late as it can be."""
    need_way(way)
    need_speed(speed)
    fast = first_too_fast(way, speed)
    if fast is not None:
        raise TooFast(fast)
    need_patches(patches)
    need_length(length)
    if not is_step(step, way, length):
        raise BadStep(step)
    told, moment = [], way[0][0]
    while fraction_order(moment, way[-1][0]) <= 0:
        told.append(moment)
        look = (moment, place_at(leg_at(way, moment), moment))
        moment = latest_step(way[0][0], step, due(look, speed, patches, length))
    return tuple(told)
