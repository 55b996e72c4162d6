"""Point 2: values of every kind for every parameter, and which of several errors is raised."""
import copy
import itertools
import unittest

from crossingstold import cones, events, looks, moments, pictures, reasons, regions, rules, stretches, unseen, ways
from crossingstold.benches import Bench
from crossingstold.desk import Desk
from crossingstold.errors import BadPoint
from crossingstold.keeping import Post
from tests.helpers import NEVER, NO_FRACTIONS, NO_LENGTHS, NO_MOMENTS, NO_POINTS, Thing, deep, refused

ROOT = (1, 0, -2, 1)
LATE = (((0, 1), True, (1, 1), False), ((1, 1), False, (2, 1), True))
SPOT = ((1, 1), (2, 1))
HALF = ("half", 1, 2, 3)
DISC = ("disc", SPOT, (4, 1))
PATCH = (((0, 1), (0, 1)), ((4, 1), (0, 1)), ((4, 1), (2, 1)))

NO_INTEGERS = [value for value in NO_MOMENTS if type(value) is not int] + [(1, 1), ROOT]
NO_TEXTS = [value for value in NEVER if not isinstance(value, str)] + [(1, 1), ROOT, LATE, HALF]

NO_STRETCHES = [value for value in NEVER if value != () and value != ""] + [
    (1, 1), ROOT, LATE[0], list(LATE), [LATE[0]], (list(LATE[0]),), (LATE,), (LATE[0], None), (LATE[1], LATE[0]),
    (LATE[0], LATE[0]), (((0, 1), 1, (1, 1), 0),), (((0, 1), True, (1, 1)),), (((0, 1), True, (1, 1), True, True),),
    (((0, 2), True, (1, 1), True),), (((0, 1), True, (1, 0, -4, 1), True),), ((0, True, 1, True),),
    (((0, 1), None, (1, 1), True),), (((0, 1), True, (1, 1), "in"),), (((0, 1), (1, 1), True, True),),
    (((1, 1), True, (0, 1), True),), (((1, 1), True, (1, 1), False),), (((1, 1), False, (1, 1), True),),
    (((1, 1), False, (1, 1), False),), ((ROOT, True, (1, 1), True),), ((ROOT, False, ROOT, True),),
    (((0, 1), True, (1, 1), False), ((1, 1), True, (2, 1), True)),
    (((0, 1), True, (1, 1), True), ((1, 1), False, (2, 1), True)),
    (((0, 1), True, (1, 1), True), ((1, 1), True, (2, 1), True)),
    (((0, 1), True, (2, 1), True), ((1, 1), True, (3, 1), True)),
    (((0, 1), False, (1, 1), False), ((1, 1), True, (1, 1), True)),
    (((1, 1), True, (1, 1), True), ((1, 1), False, (2, 1), False)),
    (((0, 1), True, ROOT, False), (ROOT, True, (2, 1), True)), "[0, 1]", ["[0, 1]"],
]

NO_REGIONS = NEVER + [
    (1, 1), ROOT, SPOT, list(HALF), ("half", 0, 0, 1), ("half", 1, 2), ("half", 1, 2, 3, 4), ("half",),
    ("half", True, 0, 1), ("half", 1, False, 1), ("half", 1, 0, True), ("half", 1, 0, None), ("half", 1, 0, (1, 2)),
    ("half", (1, 1), (0, 1), (0, 1)), ("half", "1", 0, 1), ("Half", 1, 2, 3), ("half ", 1, 2, 3), (1, 1, 2, 3),
    (("half",), 1, 2, 3), ("disc", SPOT), ("disc",), ("disc", SPOT, (1, 1), (1, 1)), ("disc", SPOT, (-1, 1)),
    ("disc", SPOT, 4), ("disc", SPOT, (2, 2)), ("disc", (1, 2), (1, 1)), ("disc", (1, 1), (2, 1), (4, 1)),
    ("disc", SPOT, ROOT), ("disc", list(SPOT), (4, 1)), ("disc", SPOT, [4, 1]), ("disc", SPOT, True),
    ("and",), ("or",), ("not",), ("not", HALF, HALF), ("xor", HALF), ("and", [HALF]), ("and", list(HALF)),
    ("and", HALF, None), ("and", None, HALF), ("or", HALF, ("half", 0, 0, 1)), ("not", ("not", ("half", 0, 0, 1))),
    ("and", (HALF, HALF)), (HALF,), (HALF, HALF), ("and", "half"), ("not", None), ["and", HALF], "(half 1 2 3)",
    ("and", *[HALF] * 9), ("or", *[HALF] * 9), (True, HALF), (None, HALF), ("", HALF), ("disc", SPOT, (4, 1), None),
]

NO_PATCHES = NEVER + [
    list(PATCH), PATCH[:2], (*PATCH, None), SPOT, HALF, (SPOT,), tuple([list(corner) for corner in PATCH]),
    ((0, 0), (4, 0), (4, 2)), (((0, 1), (0, 1)), ((4, 1), (0, 1)), ((4, 2), (2, 1))), (PATCH,), ROOT, (*PATCH[:2], ROOT),
] + [tuple([((x, 1), (y, 1)) for x, y in corners]) for corners in (
    # With the clock; a corner on a side; a dent; 2 and 9 corners; not the least corner first.
    ((0, 0), (4, 2), (4, 0)), ((0, 0), (0, 2), (2, 2), (2, 0)), ((0, 0), (1, 0), (2, 0), (0, 2)), ((0, 0), (2, 0), (1, 1), (0, 2)),
    ((0, 0), (3, 0), (1, 1), (0, 3)), ((0, 0), (4, 0)), ((0, 4), (2, 1), (4, 0), (6, 0), (9, 1), (10, 4), (9, 7), (5, 9), (1, 7)),
    ((4, 0), (4, 2), (0, 0)), ((0, 1), (0, 0), (4, 0)), ((4, 2), (0, 0), (4, 0)), ((0, 0), (4, 0), (0, 0)), ((0, 0), (4, 0), (4, 0), (4, 2)),
    ((0, 0), (3, 3), (0, 3), (3, 0)), ((0, 0), (1, 1), (2, 2)), ((0, 0), (4, 0), (4, 2), (0, 0), (4, 0), (4, 2)))]

VAN = (((0, 1), SPOT), ((2, 1), ((5, 1), (2, 1))), ((6, 1), ((5, 1), (0, 1))))
REPORTS = tuple([((n, 1), ((n * n, 1), (n, 1))) for n in range(14)])
THINGS = (("cart", REPORTS[:12]), ("van", VAN))
WATCH = ((0, 1), (9, 1))
INSIDE = ("in", "van", DISC)
NEAR = ("near", "van", "cart", (1, 4))
RULE = ("or", INSIDE, ("lately", (1, 2), NEAR))
RULES = (("out", ("not", RULE)), ("in", RULE))
EVENT = (ROOT, "van", "begins", False)

NO_SQUARES = NO_LENGTHS

NO_NAMES = [
    "", "Van", "vaN", "1van", "ninesigns", "va n", "va_n", "va-n", " van", "van ", "van\n", None, 1, True, ("v",), ["v"], b"van", (), "VAN",
]

NO_WAYS = NEVER + [
    SPOT, ROOT, VAN[0], (VAN,), list(VAN), VAN[:1], REPORTS[:1], REPORTS[:13], REPORTS, (*VAN, None), VAN[::-1], (VAN[0], VAN[0]),
    (VAN[0], VAN[2], VAN[1]), (*VAN, VAN[2]), (*VAN, VAN[0]), (VAN[0], list(VAN[1])), (VAN[0], VAN[1][:1]), (VAN[0], (*VAN[1], None)),
    (VAN[0], (2, VAN[1][1])), (VAN[0], ((2, 1), (5, 2))), (VAN[0], (ROOT, SPOT)), (VAN[0], ((4, 2), SPOT)), (VAN[0], ([2, 1], SPOT)),
    (VAN[0], ((2, True), SPOT)), (VAN[0], ((2, 1), list(SPOT))), (VAN[0], ((2, 1), (SPOT[0], (2, 2)))), (VAN[0], ((2, 1), (SPOT[0], ROOT))),
    (VAN[0], (SPOT, (2, 1))), (VAN[0], ((2, 1), *SPOT)), (VAN[0], ((0, 1), (5, 1))), (((1, 2), SPOT), ((1, 3), SPOT)), "0 0 0 ; 4 8 0",
]

NO_WATCHES = NEVER + [
    SPOT[::-1], ((1, 1), (1, 1)), ((1, 2), (1, 3)), list(WATCH), (*WATCH, (10, 1)), WATCH[:1], ((0, 1), ROOT), (ROOT, (9, 1)), ((0, 1), (9, 9)),
    ((0, 1), [9, 1]), ([0, 1], (9, 1)), (0, 9), ((0, 1), (True, 1)), ((0, 1), None), (None, (9, 1)), ((False, 1), (9, 1)), (WATCH,), ROOT,
]

NO_THINGS = NEVER + [
    VAN, ("van", VAN), (("van", VAN), ("cart", VAN)), (("van", VAN), ("van", VAN)), list(THINGS), (list(THINGS[0]), THINGS[1]), (THINGS,),
    (("van", VAN, VAN),), (("van",),), ((VAN, "van"),), (*THINGS, None), (*THINGS, THINGS[0]), {"van": VAN}, (("van", None),), (("van", ()),),
    tuple([(name, VAN) for name in "abcdefg"]), tuple([(name, VAN) for name in ("a9", "a10")]), (("cart", VAN), ("van", list(VAN))),
] + [((name, VAN),) for name in NO_NAMES] + [(("van", way),) for way in NO_WAYS[::3]] + [(("a", VAN), ("b", way)) for way in NO_WAYS[1::3]]

NO_RULE = NEVER + [
    DISC, HALF, list(INSIDE), (INSIDE,), (INSIDE, INSIDE), INSIDE[:2], (*INSIDE, None), ("in", DISC, "van"), ("in", "van", "van", DISC), ("In", "van", DISC),
    ("in", "van", list(DISC)), ("in", "van", INSIDE), list(NEAR), NEAR[:3], (*NEAR, (1, 4)), ("near", "van", (1, 4)), ("near", "van", (1, 4), "cart"),
    ("and",), ("or",), ("not",), ("since",), ("long",), ("lately",), ("not", INSIDE, INSIDE), ("and", None), ("and", INSIDE, None), ("and", (INSIDE, INSIDE)),
    ("and", [INSIDE]), ("or", DISC), ("not", HALF), ("xor", INSIDE), ("since", INSIDE), ("since", INSIDE, INSIDE, INSIDE), ("since", INSIDE, None),
    ("long", INSIDE), ("long", INSIDE, (1, 2)), ("long", (1, 2), (1, 2), INSIDE), ("long", (1, 2), None), ("lately", (1, 2), INSIDE, INSIDE),
    ("lately", INSIDE), ("and", *[INSIDE] * 9), ("or", *[INSIDE] * 9), ("and", *[("or", *[INSIDE] * 5)] * 4), ["not", INSIDE], (True, INSIDE), ("", INSIDE),
    (None, INSIDE), ("not", ("not", ("not", ("not", ("not", ("not", ("not", ("not", INSIDE)))))))), "(near van cart 1)", ("near van cart 1",), RULES, WATCH, ROOT,
] + [("in", name, DISC) for name in NO_NAMES] + [("near", name, "a", (1, 1)) for name in NO_NAMES] + [
    ("near", "a", name, (1, 1)) for name in NO_NAMES] + [("in", "van", region) for region in NO_REGIONS[::2]] + [
    ("near", "a", "b", square) for square in NO_SQUARES[::2]] + [("long", length, NEAR) for length in NO_LENGTHS[::2]] + [
    ("lately", length, NEAR) for length in NO_LENGTHS[1::2]]

NO_RULES = [value for value in NEVER if value != ()] + [
    RULE, INSIDE, ("r", RULE), list(RULES), (list(RULES[0]),), (RULES,), (RULES[0], RULES[0]), (*RULES, RULES[0]), (*RULES, None), (("r", RULE, RULE),),
    (("r",),), ((RULE, "r"),), {"r": RULE}, tuple([("r" + str(n), NEAR) for n in range(13)]), (RULE, RULE), (("a", RULE), ("b", None)),
] + [((name, RULE),) for name in NO_NAMES] + [(("r", rule),) for rule in NO_RULE[::3]] + [(RULES[0], ("r", rule)) for rule in NO_RULE[1::3]]

NO_EVENTS = NEVER + [list(EVENT), EVENT[:3], (*EVENT, None), (EVENT,), (ROOT, "van", "begins", 0), (ROOT, "van", "begins", None), (ROOT, "van", "begun", True)] + [
    (ROOT, name, "ends", True) for name in NO_NAMES] + [(moment, "van", "ends", True) for moment in NO_MOMENTS[::2]] + [ROOT, "van begins in 7"]

NO_SPEEDS = NO_LENGTHS + [(0, 1)]

NO_LOOKS = NEVER + [
    SPOT, ROOT, VAN, PATCH, list(VAN[0]), VAN[0][:1], (*VAN[0], None), (*VAN[0], VAN[0][1]), (VAN[0],), (0, SPOT), ((0, 1), (1, 2)), ((0, 2), SPOT),
    (ROOT, SPOT), ([0, 1], SPOT), ((0, 1), list(SPOT)), ((0, 1), (SPOT[0],)), ((0, 1), (SPOT[0], [2, 1])), ((0, 1), (SPOT[0], (2, 2))),
    ((0, 1), (SPOT[0], ROOT)), (SPOT, (0, 1)), ((0, 1), (0, 1), (0, 1)), ((True, 1), SPOT), ((0, True), SPOT), ((0, 1), ((True, 1), (0, 1))),
    ((0, 1), None), (None, SPOT), ((0, 1), ROOT), "0 1 2", ((0, 1), (1, 1), (2, 1), None),
]

MANY_PATCHES = tuple([tuple([((x + n, 1), y) for (x, _), y in PATCH]) for n in range(7)])

NO_LOTS = NEVER + [
    PATCH, list(MANY_PATCHES[:2]), MANY_PATCHES, (*MANY_PATCHES[:2], None), (None, PATCH), ((PATCH,),), [PATCH], {"a": PATCH},
] + [(patch,) for patch in NO_PATCHES[::2]] + [(PATCH, patch) for patch in NO_PATCHES[1::2]]

NO_BOUNDS = NEVER + [
    (1, 0), (0, 60), (-30, 30), (0, 1, 2), (1,), [0, 1], (0, None), (True, 2), (0, True), ((0, 1), (1, 1)), ("0", 1), (5, 4), (-1, -2), ROOT, {0: 1},
    (10 ** 9, 0), (False, 0), (0, False),
]

TAKEN = [("BadRule", NO_RULE, RULE), ("BadThings", NO_THINGS, THINGS), ("BadWatch", NO_WATCHES, WATCH)]
TAKEN_BY_EVENTS = [("BadRules", NO_RULES, RULES), *TAKEN[1:]]

ANY = (None, [], None)
BETWEEN = [("BadPoint", NO_POINTS, SPOT), ("BadPoint", NO_POINTS, ((5, 1), (5, 1))), ("BadPatch", NO_PATCHES, PATCH)]
SEEN = [("BadLook", NO_LOOKS, ((0, 1), ((2, 1), (1, 1)))), ("BadLook", NO_LOOKS, ((9, 1), ((3, 1), (1, 1)))), ("BadSpeed", NO_SPEEDS, (1, 2))]
SEEN_PATCH = [*SEEN, ("BadPatch", NO_PATCHES, PATCH)]
LOOKING = [("BadLook", NO_LOOKS, ((0, 1), SPOT)), ("BadSpeed", NO_SPEEDS, (5, 1)), ("BadPatches", NO_LOTS, (PATCH,)), ("BadLength", NO_LENGTHS, (1, 1))]

# Of each function: its parameters in sequence, with the error that each raises for which values, and right values.
CASES = [
    (moments.ascending, [("BadMoments", [one for one in NEVER if one != ()] + [[ROOT], (ROOT, None), ROOT], (ROOT,))]),
    (moments.between, [("BadMoment", NO_MOMENTS, (1, 1)), ("BadMoment", NO_MOMENTS, ROOT)]),
    (moments.compared, [("BadMoment", NO_MOMENTS, (1, 1)), ("BadMoment", NO_MOMENTS, ROOT)]),
    (moments.moment_text, [("BadMoment", NO_MOMENTS, ROOT)]),
    (moments.read_moment, [("BadMoment", NO_TEXTS + ["", " ", "what"], "3/2")]),
    (moments.rounded_down, [("BadMoment", NO_MOMENTS, ROOT), ("BadNumber", [*NO_INTEGERS, -1, 65, 10 ** 9], 64)]),
    (moments.scaled, [("BadMoment", NO_MOMENTS, ROOT), ("BadFraction", NO_FRACTIONS, (-1, 2))]),
    (moments.shifted, [("BadMoment", NO_MOMENTS, ROOT), ("BadFraction", NO_FRACTIONS, (-1, 2))]),
    (stretches.both, [("BadStretches", NO_STRETCHES, LATE), ("BadStretches", NO_STRETCHES, ())]),
    (stretches.has, [("BadStretches", NO_STRETCHES, LATE), ("BadMoment", NO_MOMENTS, ROOT)]),
    (stretches.joined, [("BadStretches", NO_STRETCHES, LATE), ("BadStretches", NO_STRETCHES, ())]),
    (stretches.lasts, [("BadStretches", NO_STRETCHES, LATE), ("BadLength", NO_LENGTHS, (1, 2))]),
    (stretches.less, [("BadStretches", NO_STRETCHES, LATE), ("BadStretches", NO_STRETCHES, ())]),
    (stretches.narrowed, [("BadStretches", NO_STRETCHES, LATE), ("BadLength", NO_LENGTHS, (1, 2))]),
    (stretches.put_off, [("BadStretches", NO_STRETCHES, LATE), ("BadFraction", NO_FRACTIONS, (-1, 2))]),
    (stretches.read_stretches, [("BadStretches", NO_TEXTS + [" ", "what"], "")]),
    (stretches.since, [("BadStretches", NO_STRETCHES, LATE), ("BadStretches", NO_STRETCHES, ())]),
    (stretches.stretches_text, [("BadStretches", NO_STRETCHES, LATE)]),
    (stretches.widened, [("BadStretches", NO_STRETCHES, LATE), ("BadLength", NO_LENGTHS, (1, 2))]),
    (regions.is_in, [("BadRegion", NO_REGIONS, DISC), ("BadPoint", NO_POINTS, SPOT)]),
    (regions.moved, [("BadRegion", NO_REGIONS, DISC), ("BadPoint", NO_POINTS, SPOT)]),
    (regions.parts, [("BadRegion", NO_REGIONS, DISC)]),
    (regions.read_region, [("BadRegion", NO_TEXTS + ["", " ", "what", "(", ")", "()", "half"], "(half 1 0 0)")]),
    (regions.region_of, [("BadPatch", NO_PATCHES, PATCH)]),
    (regions.region_text, [("BadRegion", NO_REGIONS, DISC)]),
    (regions.size, [("BadRegion", NO_REGIONS, DISC)]),
    (ways.at, [("BadWay", NO_WAYS, VAN), ("BadFraction", NO_FRACTIONS, (7, 2))]),
    (ways.closest, [("BadWay", NO_WAYS, VAN), ("BadWay", NO_WAYS, REPORTS[:12])]),
    (ways.during, [("BadRegion", NO_REGIONS, DISC), ("BadWay", NO_WAYS, VAN)]),
    (ways.is_in_at, [("BadRegion", NO_REGIONS, DISC), ("BadWay", NO_WAYS, VAN), ("BadMoment", NO_MOMENTS, ROOT)]),
    (ways.led_on, [("BadWay", NO_WAYS, VAN[:2]), ("BadWay", NO_WAYS, VAN[1:])]),
    (ways.near, [("BadWay", NO_WAYS, VAN), ("BadWay", NO_WAYS, REPORTS[:2]), ("BadSquare", NO_SQUARES, (1, 4))]),
    (ways.part, [("BadWay", NO_WAYS, VAN), (None, [], (1, 1)), (None, [], (2, 1))]),
    (ways.read_way, [("BadWay", NO_TEXTS + ["", " ", "what", "0 0 0"], "0 0 0 ; 4 8 0")]),
    (ways.speeds, [("BadWay", NO_WAYS, VAN)]),
    (ways.way_text, [("BadWay", NO_WAYS, VAN)]),
    (rules.far_back, [("BadRule", NO_RULE, RULE)]),
    (rules.held, TAKEN),
    (rules.held_at, [*TAKEN, ("BadMoment", NO_MOMENTS, ROOT)]),
    (rules.names_in, [("BadRule", NO_RULE, RULE)]),
    (rules.read_rule, [("BadRule", NO_TEXTS + ["", " ", "what", "()", "(not)"], "(near van cart 1)")]),
    (rules.rule_text, [("BadRule", NO_RULE, RULE)]),
    (reasons.reason, [*TAKEN, ("BadMoment", NO_MOMENTS, ROOT)]),
    (reasons.shows_reason, [*TAKEN, ("BadMoment", NO_MOMENTS, ROOT), (None, [], None)]),
    (events.event_text, [("BadEvent", NO_EVENTS, EVENT)]),
    (events.events, TAKEN_BY_EVENTS),
    (events.holding, [*TAKEN_BY_EVENTS, ("BadMoment", NO_MOMENTS, ROOT)]),
    (events.next_event, [*TAKEN_BY_EVENTS, ("BadMoment", NO_MOMENTS, ROOT)]),
    (events.read_event, [("BadEvent", NO_TEXTS + ["", " ", "what", "in"], "van ends in 7")]),
    (events.tally, [*TAKEN_BY_EVENTS, ("BadMoment", NO_MOMENTS, ROOT), ("BadMoment", NO_MOMENTS, (1, 1))]),
    (unseen.nearest, BETWEEN),
    (unseen.shows_nearest, [*BETWEEN, ANY]),
    (unseen.can_touch, SEEN_PATCH),
    (unseen.shows_can_touch, [*SEEN_PATCH, ANY]),
    (unseen.paper, SEEN_PATCH),
    (unseen.shows_paper, [*SEEN_PATCH, ANY]),
    (unseen.can_leave, SEEN_PATCH),
    (unseen.shows_can_leave, [*SEEN_PATCH, ANY]),
    (cones.when_at, [*SEEN, ("BadPoint", NO_POINTS, SPOT)]),
    (cones.when_can, SEEN_PATCH),
    (cones.surely_in, SEEN_PATCH),
    (cones.can_be_in, [*SEEN_PATCH, ("BadMoment", NO_MOMENTS, ROOT)]),
    (cones.is_surely_in, [*SEEN_PATCH, ("BadMoment", NO_MOMENTS, ROOT)]),
    (cones.earliest, [SEEN[0], *SEEN_PATCH[2:]]),
    (looks.rim_distance, [("BadPoint", NO_POINTS, SPOT), SEEN_PATCH[3]]),
    (looks.next_look, LOOKING),
    (looks.next_by, LOOKING),
    (looks.slipped, [*LOOKING, ("TooSoon", NO_FRACTIONS + [(1, 2), (0, 1), (-9, 1), (1, 1)], (20, 1))]),
    (looks.shows_slipped, [*LOOKING, ("TooSoon", NO_FRACTIONS + [(1, 2), (0, 1), (-9, 1), (1, 1)], (20, 1)), ANY]),
    (looks.plan, [("BadWay", NO_WAYS, VAN), ("BadSpeed", NO_SPEEDS, (5, 1)), *LOOKING[2:],
                  ("BadStep", NO_SPEEDS + [(3, 2), (2, 1), (1, 100), (5, 201)], (1, 4))]),
    (pictures.strip, [("BadStretches", NO_STRETCHES, LATE), ("BadMoment", NO_FRACTIONS, (-1, 2)), ("BadLength", NO_SPEEDS, (1, 2)),
                      ("BadNumber", [*NO_INTEGERS, 0, -1, 121, 10 ** 9], 120)]),
    (pictures.sight, [("BadRegion", NO_REGIONS, DISC), ("BadBounds", NO_BOUNDS, (-3, 3)), ("BadBounds", NO_BOUNDS, (0, 59))]),
]


class WrongValues(unittest.TestCase):
    def check(self, function, values, name, value):
        with self.assertRaises(ValueError, msg=(function.__name__, values)) as caught:
            function(*values)
        self.assertEqual(type(caught.exception).__name__, name, (function.__name__, values))
        self.assertIs(caught.exception.value, value, (function.__name__, values))

    def test_each_wrong_value_of_each_parameter(self):
        for function, parameters in CASES:
            right = [parameter[2] for parameter in parameters]
            function(*right)
            for at, (name, wrong, _) in enumerate(parameters):
                for value in wrong:
                    self.check(function, [*right[:at], value, *right[at + 1:]], name, value)

    def test_of_several_wrong_values_the_first_one_is_told(self):
        for function, parameters in CASES:
            right = [parameter[2] for parameter in parameters]
            for first, second in itertools.combinations(range(len(parameters)), 2):
                name, wrong, _ = parameters[first]
                step = 3 if len(parameters) == 2 else 11
                for value, other in itertools.product(wrong[::step], parameters[second][1][::step]):
                    values = [*right[:first], value, *right[first + 1:second], other, *right[second + 1:]]
                    self.check(function, values, name, value)

    def test_all_wrong_values_at_once(self):
        for function, parameters in CASES:
            for at, (name, wrong, _) in enumerate(parameters):
                ahead, behind = parameters[:at], parameters[at + 1:]
                values = [parameter[2] for parameter in ahead]
                for n, value in enumerate(wrong[::5]):
                    others = [parameter[1][n % len(parameter[1])] if parameter[1] else parameter[2] for parameter in behind]
                    self.check(function, [*values, value, *others], name, value)

    def test_wrong_values_are_not_changed(self):
        for function, parameters in CASES:
            right = [parameter[2] for parameter in parameters]
            for at, (_, wrong, _) in enumerate(parameters):
                for value in wrong:
                    if isinstance(value, (list, dict, tuple)):
                        before, told = repr(value), [*right[:at], value, *right[at + 1:]]
                        refused(function, *told)
                        self.assertEqual(repr(value), before)

    def test_lists_within_values_are_not_changed(self):
        value = ("and", [1, [2]], {"a": []})
        before = copy.deepcopy(value)
        refused(regions.region_text, value)
        refused(stretches.stretches_of, value)
        self.assertEqual(value, before)

    def test_objects_and_deep_values(self):
        own = [Post(WATCH), Bench(WATCH), Desk("watch 0 9\ndeeds"), BadPoint(1), (Post(WATCH), Bench(WATCH)), ((0, 1), Post(WATCH)), Post]
        for value in (Thing(), deep(60), [deep(59)], {"a": deep(50)}, ("not", deep(50)), ("and", Thing()), *own):
            for function, parameters in CASES:
                self.check(function, [value, *[parameter[2] for parameter in parameters[1:]]], parameters[0][0], value)


    def test_any_value_may_be_asked_of_what_shows(self):
        trip = (((0, 1), ((2, 1), (1, 1))), ((9, 1), ((3, 1), (1, 1))), (1, 2), PATCH)
        for value in (*NEVER, Post(WATCH), Bench(WATCH), (SPOT, Post(WATCH)), (Post(WATCH), (1, 1)), (0, Bench(WATCH)), deep(60), (deep(50), deep(50)), [Thing()], Post):
            for function, values in ((unseen.shows_nearest, (SPOT, SPOT, PATCH)), (unseen.shows_can_touch, trip), (unseen.shows_paper, (*trip[:3], MANY_PATCHES[6])),
                                     (unseen.shows_can_leave, trip), (looks.shows_slipped, (trip[0], (1, 1), (PATCH,), (1, 1), (20, 1)))):
                self.assertIs(function(*values, value), False, (function.__name__, value))


class Equations(unittest.TestCase):
    def test_the_value_of_an_equation_is_all_three(self):
        for wrong in NO_INTEGERS:
            for values in ((wrong, 1, 2), (1, wrong, 2), (1, 2, wrong), (wrong, wrong, wrong)):
                self.assertEqual(refused(moments.moment_of, *values, 1), ("BadEquation", values))
                self.assertEqual(refused(moments.sign_at, *values, ROOT), ("BadEquation", values))
                self.assertIsInstance(refused(moments.moment_of, *values, 1)[1], tuple)

    def test_sides(self):
        for wrong in [*NO_INTEGERS, 0, 2, -2]:
            with self.assertRaises(ValueError) as caught:
                moments.moment_of(1, 0, -2, wrong)
            self.assertEqual(type(caught.exception).__name__, "BadSide")
            self.assertIs(caught.exception.value, wrong)

    def test_the_equation_is_told_ahead_of_the_side_and_of_the_moment(self):
        self.assertEqual(refused(moments.moment_of, 0, 0, 1, 5), ("BadEquation", (0, 0, 1)))
        self.assertEqual(refused(moments.moment_of, 1, True, 1, None), ("BadEquation", (1, True, 1)))
        self.assertEqual(refused(moments.moment_of, 0, 0, 0, 1), ("BadEquation", (0, 0, 0)))
        self.assertEqual(refused(moments.sign_at, 1, None, 1, (2, 2)), ("BadEquation", (1, None, 1)))
        for wrong in NO_MOMENTS:
            self.assertEqual(refused(moments.sign_at, 0, 0, 0, wrong), ("BadMoment", wrong))

    def test_not_below_comes_behind_both_moments(self):
        self.assertEqual(refused(moments.between, (2, 2), (1, 1)), ("BadMoment", (2, 2)))
        self.assertEqual(refused(moments.between, (2, 1), (0, 2)), ("BadMoment", (0, 2)))
        for one, other in (((2, 1), (1, 1)), ((1, 1), (1, 1)), (ROOT, ROOT), (ROOT, (7, 5)), (ROOT, (1, 0, -2, -1))):
            self.assertEqual(refused(moments.between, one, other), ("NotBelow", (one, other)))
