"""REASONS: why a RULE is so at a moment, or isn't, part by part.

The functions here take the Finding of the RULE. A *span* is the STRETCHES of some moments of the WATCH up to one.
"""
from crossingstold.cuts import in_both, in_one_alone, is_stretch
from crossingstold.findings import whole_of
from crossingstold.moments import between
from crossingstold.plain import is_integer
from crossingstold.rules import found_at
from crossingstold.stretches import has
from crossingstold.surds import is_moment, later, moment_order, moved_on


def is_so(finding, moment):
    """Whether the RULE is so at this moment."""
    return has(finding.stretches, moment)


def word_of(so):
    """What a REASON begins with."""
    return "so" if so else "not"


def length_ahead(finding, moment):
    """The moment from which on a RULE with a length looks at what is so up to this moment."""
    top, bottom = finding.rule[1]
    return moved_on(moment, (-top, bottom))


def span_of(finding, watch, moment):
    """All moments of the WATCH at which a RULE with a length looks for this moment."""
    return ((later(length_ahead(finding, moment), watch[0]), True, moment, True),)


def none_of(finding, watch):
    """The STRETCHES of all moments of the WATCH at which the RULE isn't so."""
    return in_one_alone(whole_of(watch), finding.stretches)


def around(stretches, moment):
    """The one of these STRETCHES in which this moment lies."""
    return [stretch for stretch in stretches if has((stretch,), moment)][0]


def some_moment(stretches):
    """A moment that lies in the first one of these."""
    low, low_in, high, _ = stretches[0]
    return low if low_in else between(low, high)


def told_of_many(finding, watch, moment):
    """What stands behind the word for and, or."""
    so = is_so(finding, moment)
    if so == (finding.rule[0] == "and"):
        return (tuple([told_of(inner, watch, moment) for inner in finding.inner]),)
    n = [is_so(inner, moment) for inner in finding.inner].index(so)
    return (n, told_of(finding.inner[n], watch, moment))


def told_of_long(finding, watch, moment):
    """What stands behind the word for long."""
    inner = finding.inner[0]
    if is_so(finding, moment):
        return (around(inner.stretches, moment),)
    if moment_order(length_ahead(finding, moment), watch[0]) < 0:
        return (None,)
    then = some_moment(in_one_alone(span_of(finding, watch, moment), inner.stretches))
    return (then, told_of(inner, watch, then))


def told_of_lately(finding, watch, moment):
    """What stands behind the word for lately."""
    inner = finding.inner[0]
    if not is_so(finding, moment):
        return (around(none_of(inner, watch), moment),)
    then = some_moment(in_both(span_of(finding, watch, moment), inner.stretches))
    return (then, told_of(inner, watch, then))


def told_of_since(finding, watch, moment):
    """What stands behind the word for since."""
    lasting, start = finding.inner
    if is_so(start, moment):
        return (moment, told_of(start, watch, moment), None)
    if not is_so(lasting, moment):
        return (told_of(start, watch, moment), told_of(lasting, watch, moment))
    stretch = around(lasting.stretches, moment)
    if not is_so(finding, moment):
        return (stretch, around(none_of(start, watch), moment))
    then = some_moment(in_both(((stretch[0], True, moment, True),), start.stretches))
    return (then, told_of(start, watch, then), stretch)


def told_of(finding, watch, moment):
    """A REASON for this moment."""
    kind, word = finding.rule[0], word_of(is_so(finding, moment))
    if kind in ("and", "or"):
        return (word,) + told_of_many(finding, watch, moment)
    if kind == "not":
        return (word, told_of(finding.inner[0], watch, moment))
    if kind == "long":
        return (word,) + told_of_long(finding, watch, moment)
    if kind == "lately":
        return (word,) + told_of_lately(finding, watch, moment)
    if kind == "since":
        return (word,) + told_of_since(finding, watch, moment)
    return (word,)


def is_one_of(value, stretches):
    """Whether value is a STRETCH, and one of these."""
    # Asked first, is_stretch keeps 1 from being taken for True.
    return is_stretch(value) and value in stretches


def lies_around(value, stretches, low, high):
    """Whether value is one of these STRETCHES, and all moments from low to high, both too, lie in it."""
    return is_one_of(value, stretches) and in_one_alone(((low, True, high, True),), (value,)) == ()


def shows_then(finding, watch, span, so, rest):
    """Whether rest is a MOMENT of the span at which the RULE is so, or isn't, and a REASON for it."""
    if len(rest) != 2 or not is_moment(rest[0]):
        return False
    if not has(span, rest[0]) or is_so(finding, rest[0]) != so:
        return False
    return shows(finding, watch, rest[0], rest[1])


def shows_many(finding, watch, moment, rest):
    """Whether this can stand behind the word for and, or."""
    so, inner = is_so(finding, moment), finding.inner
    if so == (finding.rule[0] == "and"):
        if len(rest) != 1 or not isinstance(rest[0], tuple) or len(rest[0]) != len(inner):
            return False
        return all([shows(one, watch, moment, value) for one, value in zip(inner, rest[0])])
    if len(rest) != 2 or not is_integer(rest[0]) or not 0 <= rest[0] < len(inner):
        return False
    one = inner[rest[0]]
    return is_so(one, moment) == so and shows(one, watch, moment, rest[1])


def shows_long(finding, watch, moment, rest):
    """Whether this can stand behind the word for long."""
    inner, low = finding.inner[0], length_ahead(finding, moment)
    if is_so(finding, moment):
        return len(rest) == 1 and lies_around(rest[0], inner.stretches, low, moment)
    if moment_order(low, watch[0]) < 0:
        return len(rest) == 1 and rest[0] is None
    return shows_then(inner, watch, span_of(finding, watch, moment), False, rest)


def shows_lately(finding, watch, moment, rest):
    """Whether this can stand behind the word for lately."""
    inner, span = finding.inner[0], span_of(finding, watch, moment)
    if is_so(finding, moment):
        return shows_then(inner, watch, span, True, rest)
    return len(rest) == 1 and lies_around(rest[0], none_of(inner, watch), span[0][0], moment)


def shows_since(finding, watch, moment, rest):
    """Whether this can stand behind the word for since that is so."""
    lasting, start = finding.inner
    up_to = ((watch[0], True, moment, True),)
    if len(rest) != 3 or not shows_then(start, watch, up_to, True, rest[:2]):
        return False
    then, _, stretch = rest
    if then == moment:
        return stretch is None
    if not lies_around(stretch, lasting.stretches, moment, moment):
        return False
    return moment_order(stretch[0], then) <= 0


def shows_not_since(finding, watch, moment, rest):
    """Whether this can stand behind the word for since that isn't so."""
    lasting, start = finding.inner
    if len(rest) != 2:
        return False
    if not is_so(lasting, moment):
        return shows(start, watch, moment, rest[0]) and shows(lasting, watch, moment, rest[1])
    if not lies_around(rest[0], lasting.stretches, moment, moment):
        return False
    return lies_around(rest[1], none_of(start, watch), rest[0][0], moment)


def shows(finding, watch, moment, value):
    """Whether value is a REASON for this moment."""
    so, kind = is_so(finding, moment), finding.rule[0]
    if not isinstance(value, tuple) or not value or value[0] != word_of(so):
        return False
    rest = value[1:]
    if kind in ("and", "or"):
        return shows_many(finding, watch, moment, rest)
    if kind == "not":
        return len(rest) == 1 and shows(finding.inner[0], watch, moment, rest[0])
    if kind == "long":
        return shows_long(finding, watch, moment, rest)
    if kind == "lately":
        return shows_lately(finding, watch, moment, rest)
    if kind == "since":
        return shows_since(finding, watch, moment, rest) if so else shows_not_since(finding, watch, moment, rest)
    return rest == ()


def reason(rule, things, watch, moment):
    """A REASON why the RULE is so at this MOMENT, or isn't."""
    return told_of(found_at(rule, things, watch, moment), watch, moment)


def shows_reason(rule, things, watch, moment, value):
    """Whether value is a REASON that reason may tell."""
    return shows(found_at(rule, things, watch, moment), watch, moment, value)
