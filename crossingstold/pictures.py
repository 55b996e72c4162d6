"""Pictures: what is told, as signs to look at."""
from crossingstold.cuts import in_both
from crossingstold.errors import BadBounds, BadLength, BadMoment, BadNumber
from crossingstold.needs import need_region, need_stretches
from crossingstold.plain import are_integers, is_above_zero, is_fraction, is_integer, plus, times
from crossingstold.regions import lies_in

MOST_SPANS = 120
MOST_APART = 59

ALL = "#"
NONE = "."
SOME = "+"


def span_sign(stretches, low, high):
    """The sign of a span from low to high, its first moment counted in, its last one not."""
    span = ((low, True, high, False),)
    within = in_both(span, stretches)
    if within == span:
        return ALL
    return SOME if within else NONE


def strip(stretches, begin, step, many):
    """A sign for each of many spans, each step long, that follow one another from begin on."""
    need_stretches(stretches)
    if not is_fraction(begin):
        raise BadMoment(begin)
    if not is_above_zero(step):
        raise BadLength(step)
    if not is_integer(many) or not 1 <= many <= MOST_SPANS:
        raise BadNumber(many)
    ends = [plus(begin, times((n, 1), step)) for n in range(many + 1)]
    return "".join([span_sign(stretches, ends[n], ends[n + 1]) for n in range(many)])


def need_bounds(value):
    """BadBounds unless value is a tuple of two integers, the second one from 0 to 59 more than the first one."""
    if not isinstance(value, tuple) or len(value) != 2 or not are_integers(value):
        raise BadBounds(value)
    if not 0 <= value[1] - value[0] <= MOST_APART:
        raise BadBounds(value)


def line_of(region, xs, y):
    """A sign for each POINT of integers in this line."""
    return "".join([ALL if lies_in(region, ((x, 1), (y, 1))) else NONE for x in range(xs[0], xs[1] + 1)])


def sight(region, xs, ys):
    """Lines of signs: which POINTS of integers are in the REGION, the greatest y first."""
    need_region(region)
    need_bounds(xs)
    need_bounds(ys)
    return "\n".join([line_of(region, xs, y) for y in range(ys[1], ys[0] - 1, -1)])
