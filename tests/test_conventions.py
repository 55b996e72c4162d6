"""Point 2: values of every kind for every parameter, and which of several errors is raised."""
import copy
import itertools
import unittest

from crossingstold import moments, regions, stretches
from tests.helpers import NEVER, NO_FRACTIONS, NO_LENGTHS, NO_MOMENTS, NO_POINTS, Thing, deep, refused

ROOT = (1, 0, -2, 1)
LATE = (((0, 1), True, (1, 1), False), ((1, 1), False, (2, 1), True))
SPOT = ((1, 1), (2, 1))
HALF = ("half", 1, 2, 3)
DISC = ("disc", SPOT, (4, 1))
PATCH = (((0, 1), (0, 1)), ((4, 1), (0, 1)), ((4, 1), (2, 1)))

NO_INTEGERS = [value for value in NO_MOMENTS if type(value) is not int] + [(1, 1), ROOT]
NO_TEXTS = [value for value in NEVER if not isinstance(value, str)] + [(1, 1), ROOT, LATE, HALF]

NO_STRETCHES = [value for value in NEVER if value != () and value != ""] + [
    (1, 1), ROOT, LATE[0], list(LATE), [LATE[0]], (list(LATE[0]),), (LATE,), (LATE[0], None), (LATE[1], LATE[0]),
    (LATE[0], LATE[0]), (((0, 1), 1, (1, 1), 0),), (((0, 1), True, (1, 1)),), (((0, 1), True, (1, 1), True, True),),
    (((0, 2), True, (1, 1), True),), (((0, 1), True, (1, 0, -4, 1), True),), ((0, True, 1, True),),
    (((0, 1), None, (1, 1), True),), (((0, 1), True, (1, 1), "in"),), (((0, 1), (1, 1), True, True),),
    (((1, 1), True, (0, 1), True),), (((1, 1), True, (1, 1), False),), (((1, 1), False, (1, 1), True),),
    (((1, 1), False, (1, 1), False),), ((ROOT, True, (1, 1), True),), ((ROOT, False, ROOT, True),),
    (((0, 1), True, (1, 1), False), ((1, 1), True, (2, 1), True)),
    (((0, 1), True, (1, 1), True), ((1, 1), False, (2, 1), True)),
    (((0, 1), True, (1, 1), True), ((1, 1), True, (2, 1), True)),
    (((0, 1), True, (2, 1), True), ((1, 1), True, (3, 1), True)),
    (((0, 1), False, (1, 1), False), ((1, 1), True, (1, 1), True)),
    (((1, 1), True, (1, 1), True), ((1, 1), False, (2, 1), False)),
    (((0, 1), True, ROOT, False), (ROOT, True, (2, 1), True)), "[0, 1]", ["[0, 1]"],
]

NO_REGIONS = NEVER + [
    (1, 1), ROOT, SPOT, list(HALF), ("half", 0, 0, 1), ("half", 1, 2), ("half", 1, 2, 3, 4), ("half",),
    ("half", True, 0, 1), ("half", 1, False, 1), ("half", 1, 0, True), ("half", 1, 0, None), ("half", 1, 0, (1, 2)),
    ("half", (1, 1), (0, 1), (0, 1)), ("half", "1", 0, 1), ("Half", 1, 2, 3), ("half ", 1, 2, 3), (1, 1, 2, 3),
    (("half",), 1, 2, 3), ("disc", SPOT), ("disc",), ("disc", SPOT, (1, 1), (1, 1)), ("disc", SPOT, (-1, 1)),
    ("disc", SPOT, 4), ("disc", SPOT, (2, 2)), ("disc", (1, 2), (1, 1)), ("disc", (1, 1), (2, 1), (4, 1)),
    ("disc", SPOT, ROOT), ("disc", list(SPOT), (4, 1)), ("disc", SPOT, [4, 1]), ("disc", SPOT, True),
    ("and",), ("or",), ("not",), ("not", HALF, HALF), ("xor", HALF), ("and", [HALF]), ("and", list(HALF)),
    ("and", HALF, None), ("and", None, HALF), ("or", HALF, ("half", 0, 0, 1)), ("not", ("not", ("half", 0, 0, 1))),
    ("and", (HALF, HALF)), (HALF,), (HALF, HALF), ("and", "half"), ("not", None), ["and", HALF], "(half 1 2 3)",
    ("and", *[HALF] * 9), ("or", *[HALF] * 9), (True, HALF), (None, HALF), ("", HALF), ("disc", SPOT, (4, 1), None),
]

NO_PATCHES = NEVER + [
    list(PATCH), PATCH[:2], (*PATCH, None), SPOT, HALF, (SPOT,), tuple([list(corner) for corner in PATCH]),
    ((0, 0), (4, 0), (4, 2)), (((0, 1), (0, 1)), ((4, 1), (0, 1)), ((4, 2), (2, 1))), (PATCH,), ROOT, (*PATCH[:2], ROOT),
]

# Of each function: its parameters in sequence, with the error that each raises for which values, and right values.
CASES = [
    (moments.ascending, [("BadMoments", [one for one in NEVER if one != ()] + [[ROOT], (ROOT, None), ROOT], (ROOT,))]),
    (moments.between, [("BadMoment", NO_MOMENTS, (1, 1)), ("BadMoment", NO_MOMENTS, ROOT)]),
    (moments.compared, [("BadMoment", NO_MOMENTS, (1, 1)), ("BadMoment", NO_MOMENTS, ROOT)]),
    (moments.moment_text, [("BadMoment", NO_MOMENTS, ROOT)]),
    (moments.read_moment, [("BadMoment", NO_TEXTS + ["", " ", "what"], "3/2")]),
    (moments.rounded_down, [("BadMoment", NO_MOMENTS, ROOT), ("BadNumber", [*NO_INTEGERS, -1, 65, 10 ** 9], 64)]),
    (moments.scaled, [("BadMoment", NO_MOMENTS, ROOT), ("BadFraction", NO_FRACTIONS, (-1, 2))]),
    (moments.shifted, [("BadMoment", NO_MOMENTS, ROOT), ("BadFraction", NO_FRACTIONS, (-1, 2))]),
    (stretches.both, [("BadStretches", NO_STRETCHES, LATE), ("BadStretches", NO_STRETCHES, ())]),
    (stretches.has, [("BadStretches", NO_STRETCHES, LATE), ("BadMoment", NO_MOMENTS, ROOT)]),
    (stretches.joined, [("BadStretches", NO_STRETCHES, LATE), ("BadStretches", NO_STRETCHES, ())]),
    (stretches.lasts, [("BadStretches", NO_STRETCHES, LATE), ("BadLength", NO_LENGTHS, (1, 2))]),
    (stretches.less, [("BadStretches", NO_STRETCHES, LATE), ("BadStretches", NO_STRETCHES, ())]),
    (stretches.narrowed, [("BadStretches", NO_STRETCHES, LATE), ("BadLength", NO_LENGTHS, (1, 2))]),
    (stretches.put_off, [("BadStretches", NO_STRETCHES, LATE), ("BadFraction", NO_FRACTIONS, (-1, 2))]),
    (stretches.read_stretches, [("BadStretches", NO_TEXTS + [" ", "what"], "")]),
    (stretches.since, [("BadStretches", NO_STRETCHES, LATE), ("BadStretches", NO_STRETCHES, ())]),
    (stretches.stretches_text, [("BadStretches", NO_STRETCHES, LATE)]),
    (stretches.widened, [("BadStretches", NO_STRETCHES, LATE), ("BadLength", NO_LENGTHS, (1, 2))]),
    (regions.is_in, [("BadRegion", NO_REGIONS, DISC), ("BadPoint", NO_POINTS, SPOT)]),
    (regions.moved, [("BadRegion", NO_REGIONS, DISC), ("BadPoint", NO_POINTS, SPOT)]),
    (regions.parts, [("BadRegion", NO_REGIONS, DISC)]),
    (regions.read_region, [("BadRegion", NO_TEXTS + ["", " ", "what", "(", ")", "()", "half"], "(half 1 0 0)")]),
    (regions.region_of, [("BadPatch", NO_PATCHES, PATCH)]),
    (regions.region_text, [("BadRegion", NO_REGIONS, DISC)]),
    (regions.size, [("BadRegion", NO_REGIONS, DISC)]),
]


class WrongValues(unittest.TestCase):
    def check(self, function, values, name, value):
        with self.assertRaises(ValueError, msg=(function.__name__, values)) as caught:
            function(*values)
        self.assertEqual(type(caught.exception).__name__, name, (function.__name__, values))
        self.assertIs(caught.exception.value, value, (function.__name__, values))

    def test_each_wrong_value_of_each_parameter(self):
        for function, parameters in CASES:
            right = [parameter[2] for parameter in parameters]
            function(*right)
            for at, (name, wrong, _) in enumerate(parameters):
                for value in wrong:
                    self.check(function, [*right[:at], value, *right[at + 1:]], name, value)

    def test_of_several_wrong_values_the_first_one_is_told(self):
        for function, parameters in CASES:
            if len(parameters) == 2:
                (first, wrong, _), (_, others, _) = parameters
                for value, other in itertools.product(wrong[::3], others[::3]):
                    self.check(function, [value, other], first, value)

    def test_wrong_values_are_not_changed(self):
        for function, parameters in CASES:
            right = [parameter[2] for parameter in parameters]
            for at, (_, wrong, _) in enumerate(parameters):
                for value in wrong:
                    if isinstance(value, (list, dict, tuple)):
                        before, told = repr(value), [*right[:at], value, *right[at + 1:]]
                        refused(function, *told)
                        self.assertEqual(repr(value), before)

    def test_lists_within_values_are_not_changed(self):
        value = ("and", [1, [2]], {"a": []})
        before = copy.deepcopy(value)
        refused(regions.region_text, value)
        refused(stretches.stretches_of, value)
        self.assertEqual(value, before)

    def test_objects_and_deep_values(self):
        for value in (Thing(), deep(60), [deep(59)], {"a": deep(50)}, ("not", deep(50)), ("and", Thing())):
            for function, parameters in CASES:
                self.check(function, [value, *[parameter[2] for parameter in parameters[1:]]], parameters[0][0], value)


class Equations(unittest.TestCase):
    def test_the_value_of_an_equation_is_all_three(self):
        for wrong in NO_INTEGERS:
            for values in ((wrong, 1, 2), (1, wrong, 2), (1, 2, wrong), (wrong, wrong, wrong)):
                self.assertEqual(refused(moments.moment_of, *values, 1), ("BadEquation", values))
                self.assertEqual(refused(moments.sign_at, *values, ROOT), ("BadEquation", values))
                self.assertIsInstance(refused(moments.moment_of, *values, 1)[1], tuple)

    def test_sides(self):
        for wrong in [*NO_INTEGERS, 0, 2, -2]:
            with self.assertRaises(ValueError) as caught:
                moments.moment_of(1, 0, -2, wrong)
            self.assertEqual(type(caught.exception).__name__, "BadSide")
            self.assertIs(caught.exception.value, wrong)

    def test_the_equation_is_told_ahead_of_the_side_and_of_the_moment(self):
        self.assertEqual(refused(moments.moment_of, 0, 0, 1, 5), ("BadEquation", (0, 0, 1)))
        self.assertEqual(refused(moments.moment_of, 1, True, 1, None), ("BadEquation", (1, True, 1)))
        self.assertEqual(refused(moments.moment_of, 0, 0, 0, 1), ("BadEquation", (0, 0, 0)))
        self.assertEqual(refused(moments.sign_at, 1, None, 1, (2, 2)), ("BadEquation", (1, None, 1)))
        for wrong in NO_MOMENTS:
            self.assertEqual(refused(moments.sign_at, 0, 0, 0, wrong), ("BadMoment", wrong))

    def test_not_below_comes_behind_both_moments(self):
        self.assertEqual(refused(moments.between, (2, 2), (1, 1)), ("BadMoment", (2, 2)))
        self.assertEqual(refused(moments.between, (2, 1), (0, 2)), ("BadMoment", (0, 2)))
        for one, other in (((2, 1), (1, 1)), ((1, 1), (1, 1)), (ROOT, ROOT), (ROOT, (7, 5)), (ROOT, (1, 0, -2, -1))):
            self.assertEqual(refused(moments.between, one, other), ("NotBelow", (one, other)))
