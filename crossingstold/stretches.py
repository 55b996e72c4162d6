"""STRETCHES: all moments of which something is so, in their one form."""
from crossingstold.cuts import (
    are_stretches, cut_order, in_any, in_both, in_one_alone, is_run, is_stretch, runs_of, united)
from crossingstold.errors import BadStretches
from crossingstold.needs import need_fraction, need_length, need_moment, need_stretches
from crossingstold.surds import moment_order, moved_on
from crossingstold.texts import moment_in, words_of_moment

MOST_STRETCHES = 200


def stretches_of(some):
    """The STRETCHES of all moments in one of these at least: at most 200, in any sequence."""
    if not isinstance(some, tuple) or len(some) > MOST_STRETCHES:
        raise BadStretches(some)
    if not all([is_stretch(stretch) for stretch in some]):
        raise BadStretches(some)
    return united(runs_of(some))


def has(stretches, moment):
    """Whether this moment lies in one of them."""
    need_stretches(stretches)
    need_moment(moment)
    ahead, behind = (moment, 0), (moment, 1)
    return any([cut_order(low, ahead) <= 0 and cut_order(behind, high) <= 0 for low, high in runs_of(stretches)])


def joined(one, other):
    """The STRETCHES of all moments in one of both at least."""
    need_stretches(one)
    need_stretches(other)
    return in_any((one, other))


def both(one, other):
    """The STRETCHES of all moments in both."""
    need_stretches(one)
    need_stretches(other)
    return in_both(one, other)


def less(one, other):
    """The STRETCHES of all moments in the first and not in the other one."""
    need_stretches(one)
    need_stretches(other)
    return in_one_alone(one, other)


def put_off(stretches, by):
    """All moments, each by so much later."""
    need_stretches(stretches)
    need_fraction(by)
    return tuple([(moved_on(low, by), low_in, moved_on(high, by), high_in) for low, low_in, high, high_in in stretches])


def narrowed(stretches, length):
    """All moments that have nothing but moments of stretches in the whole length up to them."""
    need_stretches(stretches)
    need_length(length)
    later = [(moved_on(low, length), low_in, high, high_in) for low, low_in, high, high_in in stretches]
    # A whole length hangs together: so it lies in one of them.
    return tuple([stretch for stretch in later if is_stretch(stretch)])


def widened(stretches, length):
    """All moments that have some moment of stretches in the whole length up to them."""
    need_stretches(stretches)
    need_length(length)
    longer = [(low, low_in, moved_on(high, length), high_in) for low, low_in, high, high_in in stretches]
    return united(runs_of(longer))


def since(one, other):
    """All of other, and what of one comes on from it."""
    need_stretches(one)
    need_stretches(other)
    runs = runs_of(other)
    going_on = []
    for low, high in runs:
        for first, last in runs_of(one):
            # Behind the first moment of both, be it counted in or not, all is in one up to its end.
            begin = (low[0] if moment_order(low[0], first[0]) > 0 else first[0], 1)
            if is_run((first[0], 0), high) and is_run(begin, last):
                going_on.append((begin, last))
    return united(runs + going_on)


def lasts(stretches, length):
    """Whether one of them lasts so long, its ends counted in or not."""
    need_stretches(stretches)
    need_length(length)
    return any([moment_order(moved_on(stretch[0], length), stretch[2]) <= 0 for stretch in stretches])


def stretch_text(stretch):
    """The text of a STRETCH."""
    low, low_in, high, high_in = stretch
    opened = "[" if low_in else "("
    closed = "]" if high_in else ")"
    return opened + words_of_moment(low) + ", " + words_of_moment(high) + closed


def stretches_text(stretches):
    """The text of STRETCHES."""
    need_stretches(stretches)
    return "; ".join([stretch_text(stretch) for stretch in stretches])


def stretch_in(text):
    """What this text is of, if it is of a STRETCH."""
    words = text[1:-1].split(", ")
    if len(words) != 2 or text[0] not in ("[", "(") or text[-1] not in ("]", ")"):
        return None
    return (moment_in(words[0]), text[0] == "[", moment_in(words[1]), text[-1] == "]")


def read_stretches(text):
    """The STRETCHES whose text this is."""
    if not isinstance(text, str):
        raise BadStretches(text)
    # Split, the text of none would be one empty part.
    parts = text.split("; ") if text != "" else []
    told = tuple([stretch_in(part) for part in parts])
    if not are_stretches(told):
        raise BadStretches(text)
    return told
