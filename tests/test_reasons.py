"""Point 8: REASONS, told and checked. is_reason, below, says once more what the document's table says."""
import functools
import random
import unittest
from fractions import Fraction

from crossingstold.events import event_text, events, read_event
from crossingstold.moments import between, shifted
from crossingstold.reasons import reason, shows_reason
from crossingstold.rules import held, held_at, read_rule, rule_text
from crossingstold.stretches import less, read_stretches, stretches_text
from crossingstold.ways import part, read_way
from tests.helpers import NEVER, Thing, decimal_of, deep, number, order_of, refused
from tests.model import between_of, random_leaf, random_rule, random_way

VAN = read_way("0 0 0 ; 10 10 0")
THINGS = (("cart", read_way("2 6 0 ; 8 6 0")), ("van", VAN))
WATCH = ((0, 1), (10, 1))
INSIDE = read_rule("(in van (disc 5 0 4))")
SMALL = read_rule("(in van (disc 5 0 2))")
EAST = read_rule("(in van (half -1 0 -6))")
SPOT = read_rule("(in van (disc 4 0 0))")
NEVER_SO = read_rule("(in van (half 1 0 -1))")
LOW, HIGH = (1, -10, 23, -1), (1, -10, 23, 1)


def stretch(low, high, low_in=True, high_in=True):
    """A STRETCH between MOMENTS or integers."""
    low, high = [(end, 1) if isinstance(end, int) else end for end in (low, high)]
    return (low, low_in, high, high_in)


DURING = stretch(3, 7)


@functools.lru_cache(maxsize=None)
def has_of(rule, things, watch):
    """What held tells."""
    return held(rule, things, watch)


def lies(moment, one):
    """Whether a moment lies in a STRETCH."""
    low, low_in, high, high_in = one
    return order_of(low, moment) + (not low_in) <= 0 and order_of(moment, high) + (not high_in) <= 0


def same(one, other):
    """Whether two values are alike, also in their kinds."""
    return repr(one) == repr(other)


class Reasons:
    """The table of REASONS, for THINGS and a WATCH."""

    def __init__(self, things, watch):
        self.things, self.watch = things, watch

    def has(self, rule):
        """What held tells."""
        return has_of(rule, self.things, self.watch)

    def so(self, rule, moment):
        """Whether a RULE is so."""
        return any(lies(moment, one) for one in self.has(rule))

    def is_moment(self, value):
        """Whether value is a MOMENT of the WATCH: one that held_at takes."""
        return isinstance(refused(held_at, INSIDE_OF[self.things], self.things, self.watch, value), bool)

    def is_one(self, value, rule):
        """Whether value is a STRETCH that the RULE has."""
        return any(same(value, one) for one in self.has(rule))

    def span(self, low, moment):
        """Whether low .. moment lies in a STRETCH: a function of it."""
        return lambda one: lies(low, one) and lies(moment, one)

    def right(self, rule, moment, value):
        """Whether value is a REASON of the RULE at this moment of the WATCH."""
        so = self.so(rule, moment)
        if not isinstance(value, tuple) or not value or not same(value[0], "so" if so else "not"):
            return False
        return getattr(self, rule[0] + "_is" if so else rule[0] + "_isnt")(rule, moment, value[1:])

    def in_is(self, rule, moment, rest):
        return rest == ()

    in_isnt = near_is = near_isnt = in_is

    def all_of(self, rule, moment, rest):
        if len(rest) != 1 or not isinstance(rest[0], tuple) or len(rest[0]) != len(rule) - 1:
            return False
        return all(self.right(inner, moment, value) for inner, value in zip(rule[1:], rest[0]))

    def one_of(self, rule, moment, rest, so):
        if len(rest) != 2 or type(rest[0]) is not int or rest[0] not in range(len(rule) - 1):
            return False
        inner = rule[1 + rest[0]]
        return self.so(inner, moment) == so and self.right(inner, moment, rest[1])

    def and_is(self, rule, moment, rest):
        return self.all_of(rule, moment, rest)

    or_isnt = and_is

    def and_isnt(self, rule, moment, rest):
        return self.one_of(rule, moment, rest, False)

    def or_is(self, rule, moment, rest):
        return self.one_of(rule, moment, rest, True)

    def not_is(self, rule, moment, rest):
        return len(rest) == 1 and self.right(rule[1], moment, rest[0])

    not_isnt = not_is

    def ahead(self, rule, moment):
        return shifted(moment, (-rule[1][0], rule[1][1]))

    def then(self, rule, low, moment, rest, so):
        """(MOMENT, REASON) from low to moment."""
        if len(rest) != 2 or not self.is_moment(rest[0]):
            return False
        if order_of(rest[0], low) < 0 or order_of(rest[0], moment) > 0 or self.so(rule, rest[0]) != so:
            return False
        return self.right(rule, rest[0], rest[1])

    def long_is(self, rule, moment, rest):
        return len(rest) == 1 and self.is_one(rest[0], rule[2]) and self.span(self.ahead(rule, moment), moment)(rest[0])

    def long_isnt(self, rule, moment, rest):
        low = self.ahead(rule, moment)
        if order_of(low, self.watch[0]) < 0:
            return same(rest, (None,))
        return self.then(rule[2], low, moment, rest, False)

    def lately_is(self, rule, moment, rest):
        return self.then(rule[2], self.ahead(rule, moment), moment, rest, True)

    def lately_isnt(self, rule, moment, rest):
        low = max(self.ahead(rule, moment), self.watch[0], key=decimal_of)
        return len(rest) == 1 and self.is_one(rest[0], ("not", rule[2])) and self.span(low, moment)(rest[0])

    def since_is(self, rule, moment, rest):
        _, one, other = rule
        if len(rest) != 3 or not self.then(other, self.watch[0], moment, rest[:2], True):
            return False
        if order_of(rest[0], moment) == 0:
            return rest[2] is None
        return self.is_one(rest[2], one) and lies(moment, rest[2]) and order_of(rest[2][0], rest[0]) <= 0

    def since_isnt(self, rule, moment, rest):
        _, one, other = rule
        if len(rest) != 2:
            return False
        if not self.so(one, moment) and not self.so(other, moment):
            if self.right(other, moment, rest[0]) and self.right(one, moment, rest[1]):
                return True
        if not self.is_one(rest[0], one) or not lies(moment, rest[0]) or not self.is_one(rest[1], ("not", other)):
            return False
        return self.span(rest[0][0], moment)(rest[1])


# For THINGS, a RULE that may be asked of them.
INSIDE_OF = {}


def reasons_of(things, watch):
    """The table for THINGS and a WATCH."""
    INSIDE_OF[things] = ("near", things[0][0], things[0][0], (0, 1))
    return Reasons(things, watch)


def variants(value, pool):
    """What is a little otherwise than value, at one place of it."""
    yield from pool
    if isinstance(value, tuple):
        yield list(value)
        for at in range(len(value)):
            yield value[:at] + value[at + 1:]
            yield value[:at] + (value[at],) + value[at:]
            for inner in variants(value[at], pool):
                yield value[:at] + (inner,) + value[at + 1:]
        yield value + (None,)
        yield value + ((),)
        yield (value,)
    elif isinstance(value, bool):
        yield from (int(value), not value)
    elif isinstance(value, int):
        yield from (value + 1, value - 1, True, bool(value))
    elif isinstance(value, str):
        yield from ("so", "not", value + " ", value.upper())


def parts_within(rule):
    """The RULE and all within it."""
    return [rule] + [part for inner in rule[1:] if isinstance(inner, tuple) and isinstance(inner[0], str) and rule[0] != "in"
                     for part in parts_within(inner)]


class Asking(unittest.TestCase):
    def so(self, rule, moment, *values, things=THINGS, watch=WATCH):
        """That reason tells one of these, and that shows_reason takes each of them."""
        told = reason(rule, things, watch, moment)
        for value in (told, *values):
            self.assertIs(shows_reason(rule, things, watch, moment, value), True, (rule, moment, value))
            self.assertIs(reasons_of(things, watch).right(rule, moment, value), True, (rule, moment, value))
        return told

    def never(self, rule, moment, *values, things=THINGS, watch=WATCH):
        """That shows_reason refuses each of these."""
        for value in values:
            self.assertIs(shows_reason(rule, things, watch, moment, value), False, (rule, moment, value))
            self.assertIs(reasons_of(things, watch).right(rule, moment, value), False, (rule, moment, value))


class EachForm(Asking):
    def test_in_and_near(self):
        near = read_rule("(near van cart 2)")
        for rule, moment, value in (
                (INSIDE, (3, 1), ("so",)), (INSIDE, (7, 1), ("so",)), (INSIDE, (0, 1), ("not",)), (INSIDE, (10, 1), ("not",)),
                (SMALL, LOW, ("so",)), (SMALL, HIGH, ("so",)), (SMALL, (3, 1), ("not",)), (INSIDE, LOW, ("so",)),
                (near, (1, -12, 34, -1), ("so",)), (near, (1, -12, 34, 1), ("so",)), (near, (4, 1), ("not",)), (near, (8, 1), ("not",)),
                (near, (0, 1), ("not",)), (near, (6, 1), ("so",))):
            self.assertEqual(self.so(rule, moment), value)
            other = {"so": "not", "not": "so"}[value[0]]
            self.never(rule, moment, (other,), (*value, None), (*value, ()), (), list(value), value[0], (value,), (True,), None,
                       (*value, ("so",)), (*value, "so"))

    def test_and(self):
        rule = ("and", INSIDE, EAST, ("not", SMALL))
        self.assertEqual(self.so(rule, (7, 1)), ("so", (("so",), ("so",), ("so", ("not",)))))
        self.never(rule, (7, 1), ("so",), ("so", ()), ("so", (("so",), ("so",))), ("so", (("so",), ("so",), ("so",))),
                   ("so", [("so",), ("so",), ("so", ("not",))]), ("so", (("so",), ("so",), ("so", ("not",)), ("so",))),
                   ("so", ("so",), ("so",), ("so", ("not",))), ("so", (("so",), ("so",), ("so", ("not",))), None),
                   ("so", 0, ("so",)), ("not", (("so",), ("so",), ("so", ("not",)))), ("so", (("so",), ("so",), ("so", ["not"]))))
        self.assertEqual(self.so(rule, (3, 1)), ("not", 1, ("not",)))
        self.never(rule, (3, 1), ("not", 0, ("so",)), ("not", 0, ("not",)), ("not", 2, ("so", ("not",))), ("not", 3, ("not",)),
                   ("not", -1, ("not",)), ("not", -2, ("not",)), ("not", True, ("not",)), ("not", 1), ("not", 1, ("not",), None),
                   ("not", (1, 1), ("not",)), ("not", "1", ("not",)), ("not", None, ("not",)), ("so", 1, ("not",)), ("not", 1, ("so",)),
                   ("not", (("so",), ("not",), ("so", ("not",)))), ("not", 1, ["not"]))
        # Where several aren't so any of them may be told.
        self.so(rule, (1, 1), ("not", 0, ("not",)), ("not", 1, ("not",)))
        self.so(rule, (4, 1), ("not", 1, ("not",)), ("not", 2, ("not", ("so",))))
        self.never(rule, (1, 1), ("not", 2, ("so", ("not",))))
        self.assertEqual(self.so(("and", INSIDE), (5, 1)), ("so", (("so",),)))
        self.never(("and", NEVER_SO), (5, 1), ("not", False, ("not",)))

    def test_or(self):
        rule = ("or", INSIDE, EAST, ("not", SMALL))
        self.so(rule, (7, 1), ("so", 0, ("so",)), ("so", 1, ("so",)), ("so", 2, ("so", ("not",))))
        self.never(rule, (7, 1), ("so", 3, ("so",)), ("so", -3, ("so",)), ("so", True, ("so",)), ("so", False, ("so",)),
                   ("so", (("so",), ("so",), ("so", ("not",)))), ("so", 2, ("so",)), ("not", 0, ("so",)), ("so", 0), ("so", 0, ("not",)))
        rule = ("or", INSIDE, SMALL, EAST)
        self.assertEqual(self.so(rule, (2, 1)), ("not", (("not",), ("not",), ("not",))))
        self.never(rule, (2, 1), ("not", 0, ("not",)), ("not", (("not",), ("not",))), ("not", ()), ("not",),
                   ("not", (("not",), ("not",), ("not",), ("not",))), ("not", [("not",), ("not",), ("not",)]),
                   ("not", (("not",), ("not",), ("so",))), ("so", (("not",), ("not",), ("not",))))
        self.assertIn(self.so(rule, (4, 1)), (("so", 0, ("so",)), ("so", 1, ("so",))))
        self.never(rule, (4, 1), ("so", 2, ("so",)), ("so", 2, ("not",)))
        self.assertEqual(self.so(rule, (10, 1)), ("so", 2, ("so",)))

    def test_not(self):
        for rule, moment, value in (
                (("not", SMALL), LOW, ("not", ("so",))), (("not", SMALL), (0, 1), ("so", ("not",))),
                (("not", INSIDE), (10, 1), ("so", ("not",))), (("not", ("not", SMALL)), HIGH, ("so", ("not", ("so",)))),
                (("not", ("and", INSIDE, EAST)), (3, 1), ("so", ("not", 1, ("not",)))),
                (("not", ("not", ("not", INSIDE))), (3, 1), ("not", ("so", ("not", ("so",)))))):
            self.assertEqual(self.so(rule, moment), value)
            self.never(rule, moment, value[1], value[:1], (*value, None), (value[0], list(value[1])), [*value], (value[0], value),
                       ("so" if value[0] == "not" else "not", value[1]))

    def test_long(self):
        rule = ("long", (2, 1), INSIDE)
        for moment in ((5, 1), (6, 1), (7, 1), HIGH):
            self.assertEqual(self.so(rule, moment), ("so", DURING))
            self.never(rule, moment, ("so",), ("so", None), ("so", stretch(3, 7, True, False)), ("so", stretch(3, 6)), ("so", stretch(4, 7)),
                       ("so", list(DURING)), ("so", stretch(3, 7, 1, 1)), ("so", (3, True, 7, True)), ("so", ((3, True), True, (7, 1), True)),
                       ("so", DURING, ("so",)), ("so", (DURING,)), ("not", DURING), ("so", (7, 1)), ("so", (5, 1), ("so",)), ("so", "[3, 7]"),
                       ("so", stretch(0, 10)), ("so", stretch(7, 10, False)))
        for moment in ((0, 1), (1, 1), (19, 10), (1, 0, -2, 1)):
            self.assertEqual(self.so(rule, moment), ("not", None))
            self.never(rule, moment, ("not", moment, ("not",)), ("not", (0, 1), ("not",)), ("not",), ("not", None, None), ("not", False),
                       ("not", 0), ("not", ()), ("so", None), ("not", ("not",)), ("not", None, ("not",)))
        for moment in ((2, 1), (3, 1), (4, 1), LOW, (8, 1), (10, 1)):
            value = self.so(rule, moment)
            self.assertEqual([len(value), value[0], value[2]], [3, "not", ("not",)])
            self.never(rule, moment, ("not", None), ("not", (0, 1) if moment != (2, 1) else (21, 10), ("not",)), ("not", (5, 1), ("so",)))
        self.so(rule, (4, 1), ("not", (2, 1), ("not",)), ("not", (5, 2), ("not",)), ("not", (1, 0, -7, 1), ("not",)))
        self.never(rule, (4, 1), ("not", (3, 1), ("not",)), ("not", (1999, 1000), ("not",)), ("not", (3, 1), ("so",)), ("not", (7, 2), ("so",)),
                   ("not", (2, 1)), ("not", (2, 1), ("so",)), ("not", 2, ("not",)), ("not", [2, 1], ("not",)), ("not", (4, 2), ("not",)),
                   ("not", (2, True), ("not",)), ("not", (1, 0, -4, 1), ("not",)), ("not", (5, 1), ("so",)), ("not", (2, 1), ("not",), None),
                   ("not", (8, 1), ("not",)), ("not", (-1, 1), ("not",)), ("not", (2, 1), ["not"]))

    def test_long_of_length_0_and_at_the_beginning(self):
        rule = ("long", (0, 1), INSIDE)
        self.assertEqual(self.so(rule, (3, 1)), ("so", DURING))
        self.assertEqual(self.so(rule, (0, 1)), ("not", (0, 1), ("not",)))
        self.never(rule, (0, 1), ("not", None), ("not", (1, 1), ("not",)))
        self.assertEqual(self.so(("long", (3, 1), NEVER_SO), (3, 1))[2], ("not",))
        self.assertEqual(self.so(("long", (3001, 1000), NEVER_SO), (3, 1)), ("not", None))
        self.assertEqual(self.so(("long", (11, 1), INSIDE), (10, 1)), ("not", None))

    def test_long_where_all_but_ends_or_one_moment_is_so(self):
        rule = ("long", (2, 1), ("not", SPOT))
        self.assertEqual(self.so(rule, (5, 1)), ("not", (4, 1), ("not", ("so",))))
        self.assertEqual(self.so(rule, (6, 1)), ("not", (4, 1), ("not", ("so",))))
        self.assertEqual(self.so(rule, (4, 1)), ("not", (4, 1), ("not", ("so",))))
        self.assertEqual(self.so(rule, (6001, 1000)), ("so", stretch(4, 10, False)))
        self.assertEqual(self.so(rule, (3999, 1000)), ("so", stretch(0, 4, True, False)))
        self.never(rule, (6001, 1000), ("so", stretch(0, 4, True, False)), ("so", stretch(4, 10)), ("so", stretch(0, 10)))
        # What isn't so lies within, its ends not counted in.
        gap = ("or", ("in", "van", ("half", 1, 0, 3)), ("in", "van", ("half", -1, 0, -4)))
        then = self.so(("long", (5, 1), gap), (6, 1))[1]
        self.assertEqual([order_of((3, 1), then), order_of(then, (4, 1))], [-1, -1])
        self.never(("long", (5, 1), gap), (6, 1), ("not", (3, 1), ("not", (("not",), ("not",)))), ("not", (4, 1), ("not", (("not",), ("not",)))))
        self.so(("long", (5, 1), gap), (6, 1), ("not", (10, 3), ("not", (("not",), ("not",)))))

    def test_lately(self):
        rule = ("lately", (2, 1), INSIDE)
        for moment in ((3, 1), (5, 1), (8, 1), (9, 1), (1, 0, -79, 1)):
            value = self.so(rule, moment)
            self.assertEqual([len(value), value[0], value[2]], [3, "so", ("so",)])
        self.so(rule, (8, 1), ("so", (6, 1), ("so",)), ("so", (7, 1), ("so",)), ("so", HIGH, ("so",)))
        self.never(rule, (8, 1), ("so", (5999, 1000), ("so",)), ("so", (15, 2), ("not",)), ("so", (15, 2), ("so",)), ("so", (3, 1), ("so",)),
                   ("so", (8, 1), ("so",)), ("so", (6, 1)), ("so", (6, 1), ("not",)), ("so", 6, ("so",)), ("so", (12, 2), ("so",)),
                   ("so", [6, 1], ("so",)), ("so", DURING), ("so", (6, 1), ("so",), None), ("so", None), ("not", (6, 1), ("so",)),
                   ("so", (6, True), ("so",)))
        self.assertEqual(self.so(rule, (9, 1)), ("so", (7, 1), ("so",)))
        before, behind = stretch(0, 3, True, False), stretch(7, 10, False)
        for moment, told, other in (((0, 1), before, behind), ((1, 1), before, behind), ((2999, 1000), before, behind),
                                    ((9001, 1000), behind, before), ((10, 1), behind, before)):
            self.assertEqual(self.so(rule, moment), ("not", told))
            self.never(rule, moment, ("not", other), ("not", DURING), ("not", None), ("not",), ("not", list(told)), ("not", told, None),
                       ("not", (*told[:3], int(told[3]))), ("not", (*told[:3], not told[3])), ("so", told), ("not", (0, 1), ("not",)),
                       ("not", stretch(0, 10)), ("not", stretch(0, 2)))

    def test_lately_of_length_0_and_longer_than_the_watch(self):
        self.assertEqual(self.so(("lately", (0, 1), INSIDE), (7, 1)), ("so", (7, 1), ("so",)))
        self.never(("lately", (0, 1), INSIDE), (7, 1), ("so", (6, 1), ("so",)))
        self.assertEqual(self.so(("lately", (99, 1), NEVER_SO), (7, 1)), ("not", stretch(0, 10)))
        self.never(("lately", (99, 1), NEVER_SO), (7, 1), ("not", stretch(-92, 10)), ("not", stretch(0, 7)))
        rule, watch = ("lately", (4, 1), INSIDE), ((5, 1), (10, 1))
        self.so(rule, (6, 1), ("so", (5, 1), ("so",)), ("so", (6, 1), ("so",)), watch=watch)
        # What lies ahead of the WATCH is no moment of it.
        self.never(rule, (6, 1), ("so", (4, 1), ("so",)), ("so", (9, 2), ("so",)), watch=watch)
        self.assertEqual(self.so(("lately", (4, 1), NEVER_SO), (6, 1), watch=watch), ("not", stretch(5, 10)))
        # What is so lies within, its ends not counted in.
        gap = ("not", ("or", ("in", "van", ("half", 1, 0, 3)), ("in", "van", ("half", -1, 0, -4))))
        then = self.so(("lately", (5, 1), gap), (6, 1))[1]
        self.assertEqual([order_of((3, 1), then), order_of(then, (4, 1))], [-1, -1])

    def test_since_that_is_so(self):
        rule = ("since", EAST, INSIDE)
        east = stretch(6, 10)
        for moment in ((3, 1), (5, 1), (6, 1), (7, 1), LOW, HIGH):
            self.so(rule, moment, ("so", moment, ("so",), None))
            self.never(rule, moment, ("so", moment, ("so",), east), ("so", moment, ("so",)), ("so", moment, ("so",), None, None),
                       ("so", moment, ("so",), DURING), ("so", moment, ("not",), None), ("so", moment, ("so",), False), ("so", moment, None))
        self.so(rule, (7, 1), ("so", (6, 1), ("so",), east), ("so", (13, 2), ("so",), east), ("so", HIGH, ("so",), east))
        self.never(rule, (7, 1), ("so", (6, 1), ("so",), None), ("so", (59, 10), ("so",), east), ("so", (8, 1), ("not",), east),
                   ("so", (14, 2), ("so",), None), ("so", 7, ("so",), None), ("so", [7, 1], ("so",), None))
        for moment in ((8, 1), (10, 1)):
            self.so(rule, moment, ("so", (6, 1), ("so",), east), ("so", (7, 1), ("so",), east), ("so", HIGH, ("so",), east))
            self.never(rule, moment, ("so", (7, 1), ("so",), None), ("so", (5, 1), ("so",), east), ("so", (3, 1), ("so",), east),
                       ("so", (15, 2), ("not",), east), ("so", (15, 2), ("so",), east), ("so", moment, ("not",), None),
                       ("so", moment, ("so",), None), ("so", (7, 1), ("so",), list(east)), ("so", (7, 1), ("so",), DURING),
                       ("so", (7, 1), ("so",), stretch(6, 10, 1)), ("so", (7, 1), ("so",), stretch(6, 10, False)),
                       ("so", (7, 1), ("so",), stretch(5, 10)), ("so", (7, 1), ("so",), stretch(7, 10)), ("so", (7, 1), ("so",)),
                       ("so", (7, 1), ["so"], east), ("so", east, ("so",), (7, 1)), ("not", (7, 1), ("so",), east))

    def test_since_of_what_begins_just_there_end_not_counted_in(self):
        behind = ("not", ("in", "van", ("half", 1, 0, 4)))
        rule, lasting = ("since", behind, SPOT), stretch(4, 10, False)
        self.assertEqual(self.so(rule, (4, 1)), ("so", (4, 1), ("so",), None))
        self.assertEqual(self.so(rule, (5, 1)), ("so", (4, 1), ("so",), lasting))
        self.never(rule, (5, 1), ("so", (4, 1), ("so",), None), ("so", (4, 1), ("so",), stretch(4, 10)), ("so", (9, 2), ("so",), lasting))
        # One moment ahead of what lasts isn't enough.
        rule = ("since", ("not", ("in", "van", ("half", 1, 0, 4))), ("in", "van", ("disc", ((3, 1), (0, 1)), (0, 1))))
        self.assertEqual(self.so(rule, (5, 1)), ("not", lasting, stretch(3, 10, False)))
        self.never(rule, (5, 1), ("so", (3, 1), ("so",), lasting))

    def test_since_that_is_not_so(self):
        rule = ("since", INSIDE, EAST)
        self.assertEqual(self.so(rule, (2, 1)), ("not", ("not",), ("not",)))
        self.never(rule, (2, 1), ("not", ("not",)), ("not", ("not",), ("so",)), ("not", ("not",), ("not",), None), ("not", (("not",), ("not",))),
                   ("not", DURING, stretch(0, 6, True, False)), ("not", [("not",), ("not",)]), ("not", None, None), ("not",), ("so", ("not",), ("not",)))
        west = stretch(0, 6, True, False)
        for moment in ((3, 1), (5, 1), (5999, 1000), LOW):
            self.assertEqual(self.so(rule, moment), ("not", DURING, west))
            self.never(rule, moment, ("not", west, DURING), ("not", ("not",), ("so",)), ("not", ("not",), ("not",)), ("not", DURING),
                       ("not", DURING, DURING), ("not", west, west), ("not", DURING, west, None), ("not", list(DURING), west),
                       ("not", DURING, stretch(0, 6, 1, False)), ("not", DURING, stretch(0, 6)), ("not", DURING, stretch(3, 6, True, False)),
                       ("not", stretch(3, 5), west), ("not", None, west), ("so", DURING, west), ("not", ("not",), west))
        # The first one of the RULE that has to come about, the second one of that which has to last.
        rule = ("since", ("not", EAST), SPOT)
        self.assertEqual(self.so(rule, (8, 1)), ("not", ("not",), ("not", ("so",))))
        self.never(rule, (8, 1), ("not", ("not", ("so",)), ("not",)), ("not", stretch(0, 6, True, False), stretch(4, 10, False)))
        self.assertEqual(self.so(rule, (2, 1)), ("not", stretch(0, 6, True, False), stretch(0, 4, True, False)))
        self.never(rule, (2, 1), ("not", stretch(0, 6, True, False), stretch(4, 10, False)))

    def test_since_where_it_came_about_just_ahead_of_what_lasts(self):
        # It is so up to 6, 6 not counted in; what lasts begins at 6: so no moment is both ahead of it and near enough.
        west = ("not", EAST)
        rule = ("since", EAST, ("and", west, INSIDE))
        self.assertEqual(self.so(rule, (8, 1)), ("not", stretch(6, 10), stretch(6, 10)))
        # What lasts begins behind 6, and it is so at 6: then it goes on.
        rule = ("since", ("not", ("in", "van", ("half", 1, 0, 6))), ("and", ("in", "van", ("half", 1, 0, 6)), INSIDE))
        self.assertEqual(self.so(rule, (8, 1)), ("so", (6, 1), ("so", (("so",), ("so",))), stretch(6, 10, False)))

    def test_one_within_another(self):
        rule = ("long", (1, 1), ("lately", (1, 1), ("since", EAST, INSIDE)))
        for n in range(21):
            self.so(rule, number(n, 2))
            self.so(("not", ("or", ("lately", (1, 2), rule), ("since", rule, SMALL))), number(n, 2))
        rule = ("lately", (3, 1), ("long", (2, 1), SMALL))
        self.so(rule, (9, 1), ("so", (6, 1), ("so", stretch(LOW, HIGH))), ("so", HIGH, ("so", stretch(LOW, HIGH))))
        self.never(rule, (9, 1), ("so", (5, 1), ("not", (3, 1), ("not",))), ("so", (11, 2), ("so", stretch(LOW, HIGH))), ("so", (7, 1), ("so",)),
                   ("so", (6, 1), ("so", stretch(LOW, LOW))), ("so", (6, 1), ("so", stretch(HIGH, LOW))))


class AnyValue(Asking):
    def test_values_of_every_kind(self):
        rules = (INSIDE, ("and", INSIDE, EAST), ("or", INSIDE, EAST), ("not", INSIDE), ("long", (2, 1), INSIDE),
                 ("lately", (2, 1), INSIDE), ("since", EAST, INSIDE), ("since", INSIDE, EAST))
        values = [*NEVER, Thing(), deep(60), "so", ["so"], b"so", ("so", deep(59)), ("not", deep(59)), ("so", Thing()), ("not", Thing(), Thing()),
                  ("so", [], {}, None), ("not", {}, []), (("so",),), (None, None), DURING, (DURING,), (3, 1), (True,), (Thing(),)]
        for rule in rules:
            for n in range(0, 21, 5):
                self.never(rule, number(n, 2), *values)
                for word in ("so", "not"):
                    for value in values:
                        told = (word, value)
                        self.assertIs(type(shows_reason(rule, THINGS, WATCH, number(n, 2), told)), bool)
                        self.assertIs(shows_reason(rule, THINGS, WATCH, number(n, 2), told),
                                      reasons_of(THINGS, WATCH).right(rule, number(n, 2), told), (rule, n, told))

    def test_it_raises_what_reason_raises(self):
        unknown = ("near", "van", "bus", (1, 1))
        for values, told in (((1, 2, 3, 4), ("BadRule", 1)), ((unknown, 2, 3, 4), ("BadThings", 2)), ((unknown, THINGS, 3, 4), ("BadWatch", 3)),
                             ((unknown, THINGS, WATCH, 4), ("NoThing", "bus")), ((INSIDE, THINGS, WATCH, 4), ("BadMoment", 4)),
                             ((INSIDE, THINGS, WATCH, (11, 1)), ("NotThen", (11, 1))),
                             ((INSIDE, THINGS, WATCH, (1, 0, -101, 1)), ("NotThen", (1, 0, -101, 1)))):
            self.assertEqual(refused(reason, *values), told)
            for value in (None, ("so",), Thing()):
                self.assertEqual(refused(shows_reason, *values, value), told)


    def test_a_value_is_not_changed(self):
        for value in (["so"], ("so", ["so"]), ("not", [DURING, [1]], {"a": []}), {"so": ["not"]}, ("so", (7, 1), ["so"], [None])):
            for rule in (INSIDE, ("not", INSIDE), ("and", INSIDE, EAST), ("long", (2, 1), INSIDE), ("since", INSIDE, EAST), ("since", EAST, INSIDE)):
                before = repr(value)
                self.never(rule, (7, 1), value)
                self.assertEqual(repr(value), before)


class Great(Asking):
    def test_what_was_told_is_taken_again(self):
        way, small = VAN, Fraction(1, 999999937)
        for _ in range(6):
            low, high = Fraction(*way[0][0]), Fraction(*way[-1][0])
            way = part(way, number(low + (high - low) * small), number(high - (high - low) * small * 7))
        things = (("cart", THINGS[0][1]), ("van", way))
        length = number(Fraction(*way[0][0]) * 10 ** 8)
        self.assertGreater(length[1], 10 ** 40)
        watch = (way[0][0], way[-1][0])
        for rule in (("long", length, SMALL), ("lately", length, SMALL), ("since", EAST, ("long", length, SMALL)), ("lately", (1, 3), ("long", length, INSIDE))):
            self.assertEqual(read_rule(rule_text(rule)), rule)
            told = held(rule, things, watch)
            self.assertEqual(read_stretches(stretches_text(told)), told)
            self.assertEqual(told, less(((watch[0], True, watch[1], True),), held(("not", rule), things, watch)))
            for low, low_in, high, high_in in told:
                for moment, inside in ((low, low_in), (high, high_in), (between(low, high), True)):
                    self.assertIs(held_at(rule, things, watch, moment), inside)
                    self.so(rule, moment, things=things, watch=watch)
                    self.so(("not", rule), moment, things=things, watch=watch)
            for event in events((("r", rule),), things, watch):
                self.assertEqual(read_event(event_text(event)), event)
                self.so(rule, event[0], things=things, watch=watch)


class Many(Asking):
    def test_what_reason_tells_and_what_is_a_little_otherwise(self):
        chance = random.Random(1)
        names, tells = ["a", "b"], {True: 0, False: 0}
        words = set()
        for _ in range(150):
            things = tuple([(name, random_way(chance)) for name in names])
            watch = (number(chance.randint(-2, 1)), number(chance.randint(2, 7)))
            leaves = [random_leaf(chance, names) for _ in range(3)]
            rule = random_rule(chance, chance.randint(1, 4), names, leaves, Fraction(1, 2))
            if refused(held, rule, things, watch) == ("BadRule", rule):
                continue
            table = reasons_of(things, watch)
            ends = [end for part in parts_within(rule) for one in table.has(part) for end in (one[0], one[2])]
            row = sorted({watch[0], watch[1], *ends}, key=decimal_of)
            row += [between_of(one, other) for one, other in zip(row, row[1:])]
            pool = [one for part in parts_within(rule) for wanted in (part, ("not", part))
                    if refused(held, wanted, things, watch) != ("BadRule", wanted) for one in table.has(wanted)]
            for moment in chance.sample(row, min(4, len(row))):
                told = reason(rule, things, watch, moment)
                words.add((rule[0], told[0]))
                self.assertIs(shows_reason(rule, things, watch, moment, told), True, (rule, things, watch, moment, told))
                self.assertTrue(table.right(rule, moment, told))
                others = [reason(part, things, watch, chance.choice(row)) for part in parts_within(rule)]
                near = chance.sample(row, min(3, len(row))) + chance.sample(pool, min(2, len(pool))) + others[:2] + [None, 0, 1]
                changed = list(variants(told, near))
                for value in chance.sample(changed, min(60, len(changed))):
                    right = table.right(rule, moment, value)
                    self.assertIs(shows_reason(rule, things, watch, moment, value), right, (rule, things, watch, moment, value))
                    tells[right] += 1
        self.assertGreater(tells[True], 200)
        self.assertGreater(tells[False], 5000)
        self.assertEqual(len(words), 16, words)
