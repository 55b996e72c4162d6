"""What several functions ask of their values: each function here raises its error, or does nothing."""
from crossingstold.cuts import are_stretches
from crossingstold.errors import (
    BadFraction, BadLength, BadMoment, BadPoint, BadRegion, BadRule, BadSquare, BadStretches, BadThings, BadWatch,
    BadWay)
from crossingstold.kinds import are_things, is_rule, is_watch, is_way
from crossingstold.plain import is_fraction, is_from_zero, is_point
from crossingstold.shapes import is_region
from crossingstold.surds import is_moment


def need_fraction(value):
    """BadFraction unless value is a FRACTION."""
    if not is_fraction(value):
        raise BadFraction(value)


def need_length(value):
    """BadLength unless value is a LENGTH."""
    if not is_from_zero(value):
        raise BadLength(value)


def need_square(value):
    """BadSquare unless value is a SQUARE."""
    if not is_from_zero(value):
        raise BadSquare(value)


def need_point(value):
    """BadPoint unless value is a POINT."""
    if not is_point(value):
        raise BadPoint(value)


def need_moment(value):
    """BadMoment unless value is a MOMENT."""
    if not is_moment(value):
        raise BadMoment(value)


def need_stretches(value):
    """BadStretches unless value is STRETCHES."""
    if not are_stretches(value):
        raise BadStretches(value)


def need_region(value):
    """BadRegion unless value is a REGION."""
    if not is_region(value):
        raise BadRegion(value)


def need_way(value):
    """BadWay unless value is a WAY."""
    if not is_way(value):
        raise BadWay(value)


def need_things(value):
    """BadThings unless value is THINGS."""
    if not are_things(value):
        raise BadThings(value)


def need_watch(value):
    """BadWatch unless value is a WATCH."""
    if not is_watch(value):
        raise BadWatch(value)


def need_rule(value):
    """BadRule unless value is a RULE."""
    if not is_rule(value):
        raise BadRule(value)
