"""All errors: each keeps its only argument as value."""


class WatchError(ValueError):
    """What all errors of this package derive from."""

    def __init__(self, value):
        self.value = value


class BadPoint(WatchError):
    """No POINT."""


class BadLength(WatchError):
    """No LENGTH, or no FRACTION above 0 where a step is asked for."""


class BadSquare(WatchError):
    """No SQUARE."""


class BadSpeed(WatchError):
    """No SPEED."""


class BadMoment(WatchError):
    """No MOMENT, or no text of one."""


class BadNumber(WatchError):
    """No integer within its bounds."""


class BadEquation(WatchError):
    """No three integers that make an equation."""


class BadStretches(WatchError):
    """No STRETCHES, or no text of them."""


class BadRegion(WatchError):
    """No REGION, or no text of one."""


class BadReport(WatchError):
    """No REPORT."""


class BadWay(WatchError):
    """No WAY, or no text of one."""


class BadPatch(WatchError):
    """No PATCH."""


class BadLook(WatchError):
    """No LOOK."""


class BadThings(WatchError):
    """No THINGS."""


class BadWatch(WatchError):
    """No WATCH."""


class BadRule(WatchError):
    """No RULE, or no text of one."""


class BadRules(WatchError):
    """No RULES."""


class NoThing(WatchError):
    """A NAME that none of the THINGS has."""


class NotThen(WatchError):
    """A moment outside of the span or the WATCH."""


class Apart(WatchError):
    """What does not hang together."""


class NoRule(WatchError):
    """No NAME of a RULE that stands."""


class NoReport(WatchError):
    """No number of a REPORT that stands."""


class BadName(WatchError):
    """No NAME."""


class Taken(WatchError):
    """A moment or a NAME that is taken."""


class Full(WatchError):
    """A NAME for which there is no room."""


class BadPatches(WatchError):
    """No tuple of PATCHES."""


class NothingToUndo(WatchError):
    """No deed is left to take back."""


class NothingToRedo(WatchError):
    """No deed is left to do again."""


class NoBlock(WatchError):
    """Outside of all trials."""


class BadJournal(WatchError):
    """The number of a line that cannot stand in a journal."""


class BadTask(WatchError):
    """No line that can be done."""


class BadMoments(WatchError):
    """No tuple of MOMENTS, or too many of them."""


class BadSide(WatchError):
    """No side, -1 or 1."""


class BadFraction(WatchError):
    """No FRACTION."""


class NotBelow(WatchError):
    """Two MOMENTS, the first one not below the second one."""


class NoPost(WatchError):
    """No Post."""


class BadSpan(WatchError):
    """No two FRACTIONS within the span, the first one below the second one."""


class TooMany(WatchError):
    """More REPORTS than a WAY can have."""


class BadBounds(WatchError):
    """No bounds of a picture."""


class NotIn(WatchError):
    """A LOOK whose POINT isn't in the PATCH."""


class BadStep(WatchError):
    """No step."""


class TooFast(WatchError):
    """The number of a leg that is too fast."""


class TooSoon(WatchError):
    """No FRACTION above the next look."""


class BadEvent(WatchError):
    """No EVENT, or no text of one."""
