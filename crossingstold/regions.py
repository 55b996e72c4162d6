"""REGIONS: parts of the plane that are put together of half planes and discs."""
from math import gcd

from crossingstold.errors import BadRegion
from crossingstold.needs import need_patch, need_point, need_region
from crossingstold.plain import fraction_order, minus, plus, times, whole_numbers
from crossingstold.shapes import read_shape, sides_of, words_of_region


def region_text(region):
    """The text of a REGION."""
    need_region(region)
    return words_of_region(region)


def read_region(text):
    """The REGION whose text this is."""
    region = read_shape(text)
    if region is None:
        raise BadRegion(text)
    return region


def form_at(a, b, point):
    """The FRACTION a x + b y at this POINT, for integers a and b."""
    return plus(times((a, 1), point[0]), times((b, 1), point[1]))


def square_between(one, other):
    """The square of the distance of two POINTS."""
    across, up = minus(one[0], other[0]), minus(one[1], other[1])
    return plus(times(across, across), times(up, up))


def lies_in(region, point):
    """What is_in tells, of values that are checked."""
    word = region[0]
    if word == "half":
        _, a, b, c = region
        return fraction_order(form_at(a, b, point), (c, 1)) <= 0
    if word == "disc":
        return fraction_order(square_between(region[1], point), region[2]) <= 0
    found = [lies_in(inner, point) for inner in region[1:]]
    if word == "not":
        return not found[0]
    if word == "and":
        return all(found)
    return any(found)


def is_in(region, point):
    """Whether the POINT is in the REGION."""
    need_region(region)
    need_point(point)
    return lies_in(region, point)


def leaves_of(region):
    """All halves and discs in the REGION, as often as they stand in its text, in sequence."""
    if region[0] in ("half", "disc"):
        return [region]
    return [leaf for inner in region[1:] for leaf in leaves_of(inner)]


def parts(region):
    """All unlike halves and discs in the REGION, in the sequence in which they first stand in its text."""
    need_region(region)
    told = []
    for leaf in leaves_of(region):
        if leaf not in told:
            told.append(leaf)
    return tuple(told)


def size_of(region):
    """What size tells, of a REGION that is checked."""
    if region[0] in ("half", "disc"):
        return (1, 1)
    sizes = [size_of(inner) for inner in region[1:]]
    return (1 + sum([row[0] for row in sizes]), 1 + max([row[1] for row in sizes]))


def size(region):
    """How many tuples with a word there are in the REGION, and how deep they lie."""
    need_region(region)
    return size_of(region)


def side_half(one, other):
    """The half of all that lies on the left of the way from one POINT to another one, with lowest integers."""
    up, back = minus(other[1], one[1]), minus(one[0], other[0])
    border = plus(times(up, one[0]), times(back, one[1]))
    a, b, c = whole_numbers((up, back, border))
    shared = gcd(gcd(a, b), c)
    return ("half", a // shared, b // shared, c // shared)


def region_of(patch):
    """The REGION of the halves of a PATCH's sides: all POINTS in it, rims too."""
    need_patch(patch)
    return ("and", *[side_half(one, other) for one, other in sides_of(patch)])


def moved_region(region, by):
    """What moved tells, of values that are checked."""
    word = region[0]
    if word == "half":
        _, a, b, c = region
        top, bottom = plus((c, 1), form_at(a, b, by))
        return (word, a * bottom, b * bottom, top)
    if word == "disc":
        (x, y), square = region[1:]
        return (word, (plus(x, by[0]), plus(y, by[1])), square)
    return (word, *[moved_region(inner, by) for inner in region[1:]])


def moved(region, by):
    """The REGION, each of its POINTS moved by by."""
    need_region(region)
    need_point(by)
    return moved_region(region, by)
