"""MOMENTS: FRACTIONS, and roots of square equations, each in its one form."""
from crossingstold.errors import BadEquation, BadMoment, BadMoments, BadNumber, BadSide, NotBelow
from crossingstold.needs import need_fraction, need_moment
from crossingstold.plain import are_integers, in_order, is_integer, lowest
from crossingstold.surds import form_sign, is_moment, moment_order, moved_on, solved, stretched, whole_parts
from crossingstold.texts import moment_in, words_of_moment

MOST_MOMENTS = 60
MOST_HALVINGS = 64


def moment_of(a, b, c, side):
    """The lesser (side -1) or greater (1) number t with a t t + b t + c = 0; None if there is none."""
    if not are_integers((a, b, c)) or (a == 0 and b == 0):
        raise BadEquation((a, b, c))
    if not is_integer(side) or side not in (-1, 1):
        raise BadSide(side)
    return solved(a, b, c, side)


def compared(one, other):
    """-1, 0 or 1: whether one is below other, the same, above it."""
    need_moment(one)
    need_moment(other)
    return moment_order(one, other)


def ascending(moments):
    """These MOMENTS, at most 60, ascending, each once."""
    if not isinstance(moments, tuple) or len(moments) > MOST_MOMENTS:
        raise BadMoments(moments)
    if not all([is_moment(moment) for moment in moments]):
        raise BadMoments(moments)
    told = []
    for moment in in_order(moments, moment_order):
        if not told or told[-1] != moment:
            told.append(moment)
    return tuple(told)


def shifted(moment, by):
    """The MOMENT that is by more."""
    need_moment(moment)
    need_fraction(by)
    return moved_on(moment, by)


def scaled(moment, by):
    """The MOMENT that is by times as much."""
    need_moment(moment)
    need_fraction(by)
    return stretched(moment, by)


def rounded_down(moment, n):
    """The greatest FRACTION not above moment that is a whole number of parts, 2 ** n of which make 1."""
    need_moment(moment)
    if not is_integer(n) or not 0 <= n <= MOST_HALVINGS:
        raise BadNumber(n)
    return lowest(whole_parts(moment, 1 << n), 1 << n)


def first_above(moment, n):
    """The least FRACTION above moment that is a whole number of parts, 2 ** n of which make 1."""
    return lowest(whole_parts(moment, 1 << n) + 1, 1 << n)


def has_between(one, other, n):
    """Whether a whole number of parts, 2 ** n of which make 1, lies between both and is neither."""
    return moment_order(first_above(one, n), other) < 0


def between(one, other):
    """The least one of the FRACTIONS between both whose bottom is 1, or else 2, or else 4, and so on."""
    need_moment(one)
    need_moment(other)
    if moment_order(one, other) >= 0:
        raise NotBelow((one, other))
    if has_between(one, other, 0):
        return first_above(one, 0)
    # What lies between them stays there as parts are halved: so the least n can be closed in.
    low, high = 0, 1
    while not has_between(one, other, high):
        low, high = high, high * 2
    while high - low > 1:
        middle = (low + high) // 2
        if has_between(one, other, middle):
            high = middle
        else:
            low = middle
    return first_above(one, high)


def sign_at(a, b, c, moment):
    """-1, 0 or 1: the sign of a t t + b t + c for t the moment."""
    if not are_integers((a, b, c)):
        raise BadEquation((a, b, c))
    need_moment(moment)
    return form_sign(a, b, c, moment)


def moment_text(moment):
    """The text of a MOMENT."""
    need_moment(moment)
    return words_of_moment(moment)


def read_moment(text):
    """The MOMENT whose text this is."""
    moment = moment_in(text)
    if moment is None:
        raise BadMoment(text)
    return moment
