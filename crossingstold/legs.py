"""WAYS leg by leg: where a thing is on a leg, when it is in a REGION, and when two are near; nothing is checked.

A *leg* is a pair of REPORTS. A *line* is a pair of FRACTIONS (b, c), for the number b t + c at each moment t; two
lines tell where a thing is on a leg, across and up. A *form* is three FRACTIONS (a, b, c), for the number
a t t + b t + c; a is never below 0 here.
"""
from crossingstold.cuts import in_all, in_any, in_one_alone
from crossingstold.plain import fraction_order, minus, over, plus, times, whole_numbers
from crossingstold.regions import form_at
from crossingstold.surds import earlier, later, moment_order, solved


def legs_of(way):
    """The legs of a WAY, in sequence."""
    return [(way[n - 1], way[n]) for n in range(1, len(way))]


def line_through(low, first, high, last):
    """The line that is first at the moment low, and last at the moment high."""
    b = over(minus(last, first), minus(high, low))
    return (b, minus(first, times(b, low)))


def lines_of(leg):
    """The two lines of a leg."""
    (low, (x, y)), (high, (far_x, far_y)) = leg
    return (line_through(low, x, high, far_x), line_through(low, y, high, far_y))


def place_at(leg, moment):
    """The POINT of a leg at a moment, which is a FRACTION."""
    x, y = [plus(times(b, moment), c) for b, c in lines_of(leg)]
    return (x, y)


def square_speed(leg):
    """The square of the speed on a leg."""
    x, y = lines_of(leg)
    return plus(times(x[0], x[0]), times(y[0], y[0]))


def form_worth(form, moment):
    """The FRACTION that a form is at a moment, which is a FRACTION."""
    a, b, c = form
    return plus(times(plus(times(a, moment), b), moment), c)


def square_form(x, y):
    """The form of the square of the distance from 0 0, for these two lines."""
    (b, c), (e, f) = x, y
    half = plus(times(b, c), times(e, f))
    return (plus(times(b, b), times(e, e)), plus(half, half), plus(times(c, c), times(f, f)))


def leaf_form(leaf, lines):
    """The form that isn't above 0 just when a place with these two lines is in a half or disc."""
    (b, c), (e, f) = lines
    if leaf[0] == "half":
        _, left, up, most = leaf
        return ((0, 1), form_at(left, up, (b, e)), minus(form_at(left, up, (c, f)), (most, 1)))
    (x, y), square = leaf[1:]
    far = square_form((b, minus(c, x)), (e, minus(f, y)))
    return (far[0], far[1], minus(far[2], square))


def distance_form(leg, other):
    """The form of the square of the distance of two things on their legs."""
    x, y = [(minus(b, e), minus(c, f)) for (b, c), (e, f) in zip(lines_of(leg), lines_of(other))]
    return square_form(x, y)


def not_above_zero(form, low, high):
    """The STRETCHES of all moments from low to high at which the form isn't above 0; none if low is above high."""
    a, b, c = whole_numbers(form)
    if a == 0 and b == 0:
        if c > 0:
            return ()
    elif a == 0:
        border = solved(a, b, c, 1)
        low, high = (low, earlier(high, border)) if b > 0 else (later(low, border), high)
    elif solved(a, b, c, 1) is None:
        return ()
    else:
        low, high = later(low, solved(a, b, c, -1)), earlier(high, solved(a, b, c, 1))
    if moment_order(low, high) > 0:
        return ()
    return ((low, True, high, True),)


def leg_in(region, leg):
    """The STRETCHES of all moments of a leg at which its place lies in the REGION."""
    low, high = leg[0][0], leg[1][0]
    word = region[0]
    if word in ("half", "disc"):
        return not_above_zero(leaf_form(region, lines_of(leg)), low, high)
    lots = [leg_in(inner, leg) for inner in region[1:]]
    if word == "not":
        return in_one_alone(((low, True, high, True),), lots[0])
    return in_all(lots) if word == "and" else in_any(lots)


def way_in(region, way):
    """The STRETCHES of all moments of a WAY at which its place lies in the REGION."""
    return in_any([leg_in(region, leg) for leg in legs_of(way)])


def common_span(leg, other):
    """(low, high): from when to when one is on both legs; high is below low if that is never so."""
    return (later(leg[0][0], other[0][0]), earlier(leg[1][0], other[1][0]))


def legs_together(one, other):
    """All pairs of legs of two WAYS that have a moment in common; by these moments, ascending."""
    pairs = []
    for leg in legs_of(one):
        for beside in legs_of(other):
            low, high = common_span(leg, beside)
            if fraction_order(low, high) <= 0:
                pairs.append((leg, beside))
    return pairs


def legs_near(square, leg, other):
    """The STRETCHES of all moments of both legs at which the square of the distance is at most this."""
    a, b, c = distance_form(leg, other)
    low, high = common_span(leg, other)
    return not_above_zero((a, b, minus(c, square)), low, high)


def ways_near(square, one, other):
    """The STRETCHES of all moments of both WAYS at which the square of the distance is at most this."""
    return in_any([legs_near(square, leg, beside) for leg, beside in legs_together(one, other)])


def least_distance(leg, other):
    """(square, moment): the least square of the distance on two legs with a moment in common, and when first."""
    form = distance_form(leg, other)
    a, b, _ = form
    low, high = common_span(leg, other)
    moment = low
    if a[0] != 0:
        # Half way between two solutions a form is least.
        moment = earlier(later(over(b, times((-2, 1), a)), low), high)
    return (form_worth(form, moment), moment)
