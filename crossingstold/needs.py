"""What several functions ask of their values: each function here raises its error, or does nothing."""
from crossingstold.cuts import are_stretches
from crossingstold.errors import (
    BadFraction, BadLength, BadLook, BadMoment, BadName, BadPatch, BadPatches, BadPoint, BadRegion, BadReport, BadRule,
    BadSpeed, BadSquare, BadStretches, BadThings, BadWatch, BadWay)
from crossingstold.kinds import are_patches, are_things, is_name, is_report, is_rule, is_watch, is_way
from crossingstold.plain import is_above_zero, is_fraction, is_from_zero, is_point
from crossingstold.shapes import is_patch, is_region
from crossingstold.surds import is_moment


def need_fraction(value):
    """BadFraction unless value is a FRACTION."""
    if not is_fraction(value):
        raise BadFraction(value)


def need_length(value):
    """BadLength unless value is a LENGTH."""
    if not is_from_zero(value):
        raise BadLength(value)


def need_square(value):
    """BadSquare unless value is a SQUARE."""
    if not is_from_zero(value):
        raise BadSquare(value)


def need_point(value):
    """BadPoint unless value is a POINT."""
    if not is_point(value):
        raise BadPoint(value)


def need_moment(value):
    """BadMoment unless value is a MOMENT."""
    if not is_moment(value):
        raise BadMoment(value)


def need_stretches(value):
    """BadStretches unless value is STRETCHES."""
    if not are_stretches(value):
        raise BadStretches(value)


def need_region(value):
    """BadRegion unless value is a REGION."""
    if not is_region(value):
        raise BadRegion(value)


def need_way(value):
    """BadWay unless value is a WAY."""
    if not is_way(value):
        raise BadWay(value)


def need_things(value):
    """BadThings unless value is THINGS."""
    if not are_things(value):
        raise BadThings(value)


def need_watch(value):
    """BadWatch unless value is a WATCH."""
    if not is_watch(value):
        raise BadWatch(value)


def need_rule(value):
    """BadRule unless value is a RULE."""
    if not is_rule(value):
        raise BadRule(value)


def need_speed(value):
    """BadSpeed unless value is a SPEED."""
    if not is_above_zero(value):
        raise BadSpeed(value)


def need_patch(value):
    """BadPatch unless value is a PATCH."""
    if not is_patch(value):
        raise BadPatch(value)


def need_patches(value):
    """BadPatches unless value is a tuple of 1 to 6 PATCHES."""
    if not are_patches(value):
        raise BadPatches(value)


def need_look(value):
    """BadLook unless value is a LOOK, which is a tuple like a REPORT."""
    if not is_report(value):
        raise BadLook(value)


def need_report(value):
    """BadReport unless value is a REPORT."""
    if not is_report(value):
        raise BadReport(value)


def need_name(value):
    """BadName unless value is a NAME."""
    if not is_name(value):
        raise BadName(value)
