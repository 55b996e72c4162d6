"""The interface: names, the files that define them, and their parameters."""
import importlib
import inspect
import unittest

ROOT = (1, 0, -2, 1)
LATE = (((0, 1), True, (1, 1), False), ((1, 1), False, (2, 1), True))
SOON = (((1, 2), True, (1, 1), True),)
SPOT = ((1, 1), (2, 1))
RING = ("and", ("disc", SPOT, (4, 1)), ("not", ("half", 1, 2, 3)))
PATCH = (((0, 1), (0, 1)), ((4, 1), (0, 1)), ((4, 1), (2, 1)))
VAN = (((0, 1), SPOT), ((2, 1), ((5, 1), (2, 1))), ((6, 1), ((5, 1), (0, 1))))
CART = (((1, 1), ((3, 1), (2, 1))), ((2, 1), ((5, 1), (2, 1))))
THINGS = (("cart", CART), ("van", VAN))
WATCH = ((0, 1), (9, 1))
RULE = ("or", ("in", "van", RING), ("lately", (1, 2), ("near", "van", "cart", (1, 4))))
RULES = (("out", ("not", RULE)), ("in", RULE))

# For each file, of each function: its parameters, and values that it takes.
FUNCTIONS = {
    "moments": {
        "ascending": {"moments": (ROOT, (1, 1))},
        "between": {"one": (1, 1), "other": ROOT},
        "compared": {"one": (1, 1), "other": ROOT},
        "moment_of": {"a": 1, "b": 3, "c": 1, "side": -1},
        "moment_text": {"moment": ROOT},
        "read_moment": {"text": "root 1 0 -2 high"},
        "rounded_down": {"moment": ROOT, "n": 3},
        "scaled": {"moment": ROOT, "by": (-1, 2)},
        "shifted": {"moment": ROOT, "by": (-1, 2)},
        "sign_at": {"a": 1, "b": 2, "c": -5, "moment": ROOT},
    },
    "stretches": {
        "both": {"one": LATE, "other": SOON},
        "has": {"stretches": LATE, "moment": ROOT},
        "joined": {"one": LATE, "other": SOON},
        "lasts": {"stretches": LATE, "length": (1, 1)},
        "less": {"one": LATE, "other": SOON},
        "narrowed": {"stretches": LATE, "length": (1, 2)},
        "put_off": {"stretches": LATE, "by": (-1, 2)},
        "read_stretches": {"text": "[0, 1)"},
        "since": {"one": LATE, "other": SOON},
        "stretches_of": {"some": LATE[::-1]},
        "stretches_text": {"stretches": LATE},
        "widened": {"stretches": LATE, "length": (1, 2)},
    },
    "regions": {
        "is_in": {"region": RING, "point": SPOT},
        "moved": {"region": RING, "by": SPOT},
        "parts": {"region": RING},
        "read_region": {"text": "(half 1 0 0)"},
        "region_of": {"patch": PATCH},
        "region_text": {"region": RING},
        "size": {"region": RING},
    },
    "ways": {
        "at": {"way": VAN, "moment": (7, 2)},
        "closest": {"one": VAN, "other": CART},
        "during": {"region": RING, "way": VAN},
        "is_in_at": {"region": RING, "way": VAN, "moment": ROOT},
        "led_on": {"one": CART, "other": VAN[1:]},
        "near": {"one": VAN, "other": CART, "square": (1, 4)},
        "part": {"way": VAN, "low": (1, 2), "high": (7, 2)},
        "read_way": {"text": "0 0 0 ; 4 8 0"},
        "speeds": {"way": VAN},
        "way_text": {"way": VAN},
    },
    "rules": {
        "far_back": {"rule": RULE},
        "held": {"rule": RULE, "things": THINGS, "watch": WATCH},
        "held_at": {"rule": RULE, "things": THINGS, "watch": WATCH, "moment": ROOT},
        "names_in": {"rule": RULE},
        "read_rule": {"text": "(near van cart 1/4)"},
        "rule_text": {"rule": RULE},
    },
    "reasons": {
        "reason": {"rule": RULE, "things": THINGS, "watch": WATCH, "moment": ROOT},
        "shows_reason": {"rule": ("not", ("in", "van", ("half", 1, 0, 9))), "things": THINGS, "watch": WATCH, "moment": ROOT,
                         "value": ("not", ("so",))},
    },
    "events": {
        "event_text": {"event": (ROOT, "van", "begins", False)},
        "events": {"rules": RULES, "things": THINGS, "watch": WATCH},
        "holding": {"rules": RULES, "things": THINGS, "watch": WATCH, "moment": ROOT},
        "next_event": {"rules": RULES, "things": THINGS, "watch": WATCH, "moment": ROOT},
        "read_event": {"text": "van ends out root 1 0 -2 low"},
        "tally": {"rules": RULES, "things": THINGS, "watch": WATCH, "low": (1, 1), "high": (5, 1)},
    },
}


class Interface(unittest.TestCase):
    def each(self):
        for file, functions in FUNCTIONS.items():
            module = importlib.import_module("crossingstold." + file)
            for name, values in functions.items():
                yield module, name, getattr(module, name), values

    def test_each_is_defined_in_its_file(self):
        for module, name, function, _ in self.each():
            self.assertTrue(inspect.isfunction(function), name)
            self.assertEqual(function.__module__, module.__name__, name)
            self.assertEqual(function.__name__, name)

    def test_parameters_have_the_names_of_the_document_and_no_defaults(self):
        for _, name, function, values in self.each():
            told = list(inspect.signature(function).parameters.values())
            self.assertEqual([one.name for one in told], list(values), name)
            for one in told:
                self.assertEqual((one.kind, one.default), (one.POSITIONAL_OR_KEYWORD, one.empty), name)

    def test_values_by_position_by_name_and_mixed(self):
        for _, name, function, values in self.each():
            told = function(*values.values())
            self.assertEqual(function(**values), told, name)
            self.assertEqual(function(**dict(reversed(values.items()))), told, name)
            first, *others = values
            self.assertEqual(function(values[first], **{other: values[other] for other in others}), told, name)

    def test_equal_calls_tell_equal_things(self):
        for _, name, function, values in self.each():
            self.assertEqual(repr(function(**values)), repr(function(**values)), name)
