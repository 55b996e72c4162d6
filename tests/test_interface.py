"""The interface: names, the files that define them, and their parameters."""
import importlib
import inspect
import unittest

from crossingstold.benches import Bench

ROOT = (1, 0, -2, 1)
LATE = (((0, 1), True, (1, 1), False), ((1, 1), False, (2, 1), True))
SOON = (((1, 2), True, (1, 1), True),)
SPOT = ((1, 1), (2, 1))
RING = ("and", ("disc", SPOT, (4, 1)), ("not", ("half", 1, 2, 3)))
PATCH = (((0, 1), (0, 1)), ((4, 1), (0, 1)), ((4, 1), (2, 1)))
VAN = (((0, 1), SPOT), ((2, 1), ((5, 1), (2, 1))), ((6, 1), ((5, 1), (0, 1))))
CART = (((1, 1), ((3, 1), (2, 1))), ((2, 1), ((5, 1), (2, 1))))
THINGS = (("cart", CART), ("van", VAN))
WATCH = ((0, 1), (9, 1))
RULE = ("or", ("in", "van", RING), ("lately", (1, 2), ("near", "van", "cart", (1, 4))))
RULES = (("out", ("not", RULE)), ("in", RULE))

AWAY = (((0, 1), (7, 1)), ((4, 1), (7, 1)), ((4, 1), (9, 1)))
TRIP = {"one": ((0, 1), ((2, 1), (1, 1))), "other": ((9, 1), ((3, 1), (1, 1))), "speed": (1, 2), "patch": PATCH}
LOOKING = {"look": ((0, 1), SPOT), "speed": (3, 1), "patches": (AWAY, PATCH), "length": (1, 2)}
BENCH = Bench(WATCH)
BENCH.do("put van 0 1 2")

# For each file, of each function: its parameters, and values that it takes.
FUNCTIONS = {
    "moments": {
        "ascending": {"moments": (ROOT, (1, 1))},
        "between": {"one": (1, 1), "other": ROOT},
        "compared": {"one": (1, 1), "other": ROOT},
        "moment_of": {"a": 1, "b": 3, "c": 1, "side": -1},
        "moment_text": {"moment": ROOT},
        "read_moment": {"text": "root 1 0 -2 high"},
        "rounded_down": {"moment": ROOT, "n": 3},
        "scaled": {"moment": ROOT, "by": (-1, 2)},
        "shifted": {"moment": ROOT, "by": (-1, 2)},
        "sign_at": {"a": 1, "b": 2, "c": -5, "moment": ROOT},
    },
    "stretches": {
        "both": {"one": LATE, "other": SOON},
        "has": {"stretches": LATE, "moment": ROOT},
        "joined": {"one": LATE, "other": SOON},
        "lasts": {"stretches": LATE, "length": (1, 1)},
        "less": {"one": LATE, "other": SOON},
        "narrowed": {"stretches": LATE, "length": (1, 2)},
        "put_off": {"stretches": LATE, "by": (-1, 2)},
        "read_stretches": {"text": "[0, 1)"},
        "since": {"one": LATE, "other": SOON},
        "stretches_of": {"some": LATE[::-1]},
        "stretches_text": {"stretches": LATE},
        "widened": {"stretches": LATE, "length": (1, 2)},
    },
    "regions": {
        "is_in": {"region": RING, "point": SPOT},
        "moved": {"region": RING, "by": SPOT},
        "parts": {"region": RING},
        "read_region": {"text": "(half 1 0 0)"},
        "region_of": {"patch": PATCH},
        "region_text": {"region": RING},
        "size": {"region": RING},
    },
    "ways": {
        "at": {"way": VAN, "moment": (7, 2)},
        "closest": {"one": VAN, "other": CART},
        "during": {"region": RING, "way": VAN},
        "is_in_at": {"region": RING, "way": VAN, "moment": ROOT},
        "led_on": {"one": CART, "other": VAN[1:]},
        "near": {"one": VAN, "other": CART, "square": (1, 4)},
        "part": {"way": VAN, "low": (1, 2), "high": (7, 2)},
        "read_way": {"text": "0 0 0 ; 4 8 0"},
        "speeds": {"way": VAN},
        "way_text": {"way": VAN},
    },
    "rules": {
        "far_back": {"rule": RULE},
        "held": {"rule": RULE, "things": THINGS, "watch": WATCH},
        "held_at": {"rule": RULE, "things": THINGS, "watch": WATCH, "moment": ROOT},
        "names_in": {"rule": RULE},
        "read_rule": {"text": "(near van cart 1/4)"},
        "rule_text": {"rule": RULE},
    },
    "reasons": {
        "reason": {"rule": RULE, "things": THINGS, "watch": WATCH, "moment": ROOT},
        "shows_reason": {"rule": ("not", ("in", "van", ("half", 1, 0, 9))), "things": THINGS, "watch": WATCH, "moment": ROOT,
                         "value": ("not", ("so",))},
    },
    "events": {
        "event_text": {"event": (ROOT, "van", "begins", False)},
        "events": {"rules": RULES, "things": THINGS, "watch": WATCH},
        "holding": {"rules": RULES, "things": THINGS, "watch": WATCH, "moment": ROOT},
        "next_event": {"rules": RULES, "things": THINGS, "watch": WATCH, "moment": ROOT},
        "read_event": {"text": "van ends out root 1 0 -2 low"},
        "tally": {"rules": RULES, "things": THINGS, "watch": WATCH, "low": (1, 1), "high": (5, 1)},
    },
    "unseen": {
        "can_leave": TRIP,
        "can_touch": TRIP,
        "nearest": {"point": SPOT, "goal": ((9, 1), (9, 1)), "patch": PATCH},
        "paper": {**TRIP, "patch": AWAY},
        "shows_can_leave": {**TRIP, "value": (((3, 1), (9, 4)), (3, 1))},
        "shows_can_touch": {**TRIP, "value": (((3, 1), (1, 1)), (3, 1))},
        "shows_nearest": {"point": SPOT, "goal": SPOT, "patch": PATCH, "value": SPOT},
        "shows_paper": {**TRIP, "patch": AWAY, "value": (((1, 1), (0, 1)), ((1, 1), (0, 1)))},
    },
    "cones": {
        "can_be_in": {**TRIP, "moment": ROOT},
        "earliest": {"one": TRIP["one"], "speed": (1, 2), "patch": AWAY},
        "is_surely_in": {**TRIP, "moment": ROOT},
        "surely_in": TRIP,
        "when_at": {**{name: TRIP[name] for name in ("one", "other", "speed")}, "point": ((3, 1), (1, 1))},
        "when_can": TRIP,
    },
    "looks": {
        "next_by": LOOKING,
        "next_look": LOOKING,
        "plan": {"way": VAN, "speed": (3, 1), "patches": (AWAY, PATCH), "length": (1, 2), "step": (1, 4)},
        "rim_distance": {"point": SPOT, "patch": AWAY},
        "shows_slipped": {**LOOKING, "later": (9, 1), "value": (1, VAN)},
        "slipped": {**LOOKING, "later": (9, 1)},
    },
    "pictures": {
        "sight": {"region": RING, "xs": (-3, 4), "ys": (0, 5)},
        "strip": {"stretches": LATE, "begin": (-1, 2), "step": (1, 3), "many": 9},
    },
    "journals": {
        "journal": {"bench": BENCH},
        "read_journal": {"text": "watch 0 9\ndeeds\nput van 0 1 2"},
    },
}

# For each file, of each class: the parameters of its making, its attributes, and of each method its parameters.
CLASSES = {
    "keeping": {"Post": (["watch"], ["watch", "reports", "rules", "things", "work"], {
        "put": ["name", "report"], "take": ["number"], "correct": ["number", "report"], "add": ["name", "rule"], "drop": ["name"],
        "held": ["name"], "events": [], "copy": []})},
    "benches": {"Bench": (["watch"], ["watch", "deeds"], {
        "post": [], "do": ["line"], "undo": [], "redo": [], "tried": ["look", "*keep"], "keep": [], "copy": [], "__len__": [],
        "__eq__": ["other"]})},
    "desk": {"Desk": (["text"], ["bench"], {"say": ["line"]})},
}
MADE_OF = {"Post": WATCH, "Bench": WATCH, "Desk": "watch 0 9\ndeeds"}


class Interface(unittest.TestCase):
    def each(self):
        for file, functions in FUNCTIONS.items():
            module = importlib.import_module("crossingstold." + file)
            for name, values in functions.items():
                yield module, name, getattr(module, name), values

    def test_each_is_defined_in_its_file(self):
        for module, name, function, _ in self.each():
            self.assertTrue(inspect.isfunction(function), name)
            self.assertEqual(function.__module__, module.__name__, name)
            self.assertEqual(function.__name__, name)

    def test_parameters_have_the_names_of_the_document_and_no_defaults(self):
        for _, name, function, values in self.each():
            told = list(inspect.signature(function).parameters.values())
            self.assertEqual([one.name for one in told], list(values), name)
            for one in told:
                self.assertEqual((one.kind, one.default), (one.POSITIONAL_OR_KEYWORD, one.empty), name)

    def test_values_by_position_by_name_and_mixed(self):
        for _, name, function, values in self.each():
            told = function(*values.values())
            self.assertEqual(function(**values), told, name)
            self.assertEqual(function(**dict(reversed(values.items()))), told, name)
            first, *others = values
            self.assertEqual(function(values[first], **{other: values[other] for other in others}), told, name)

    def test_equal_calls_tell_equal_things(self):
        for _, name, function, values in self.each():
            told, again = function(**values), function(**values)
            self.assertEqual(told, again, name)
            if name != "read_journal":
                self.assertEqual(repr(told), repr(again), name)


class Classes(unittest.TestCase):
    def each(self):
        for file, classes in CLASSES.items():
            module = importlib.import_module("crossingstold." + file)
            for name, (making, attributes, methods) in classes.items():
                yield module, getattr(module, name), making, attributes, methods

    def test_each_is_defined_in_its_file(self):
        for module, kind, _, _, _ in self.each():
            self.assertTrue(inspect.isclass(kind))
            self.assertEqual(kind.__module__, module.__name__)
            self.assertEqual(kind.__bases__, (object,))

    def test_each_method_is_defined_in_the_class_with_the_parameters_of_the_document(self):
        for _, kind, making, _, methods in self.each():
            for name, parameters in {**methods, "__init__": making}.items():
                self.assertIn(name, vars(kind))
                told = list(inspect.signature(vars(kind)[name]).parameters.values())[1:]
                marks = ["*" + one.name if one.kind == one.KEYWORD_ONLY else one.name for one in told]
                self.assertEqual(marks, parameters, (kind, name))
                self.assertEqual([one.default for one in told], [one.empty if mark[0] != "*" else False for one, mark in zip(told, marks)])

    def test_each_attribute_is_there_when_an_object_is_created(self):
        for _, kind, making, attributes, _ in self.each():
            for made in (kind(MADE_OF[kind.__name__]), kind(**{making[0]: MADE_OF[kind.__name__]})):
                for name in attributes:
                    getattr(made, name)

    def test_methods_take_their_parameters_by_name(self):
        post = importlib.import_module("crossingstold.keeping").Post(watch=WATCH)
        self.assertEqual([post.put(name="van", report=report) for report in VAN[:2]], [0, 1])
        self.assertEqual([post.add(name="r", rule=("in", "van", RING)), post.correct(number=1, report=VAN[2])], [None, None])
        self.assertEqual([post.held(name="r"), post.take(number=1), post.drop(name="r")][1:], [None, None])
        self.assertEqual((post.reports, post.rules), (((0, "van", VAN[0]),), ()))
        bench = Bench(watch=WATCH)
        self.assertEqual([bench.do(line="put van 0 1 2"), bench.tried(look=len), bench.tried(keep=True, look=len)], [None, 1, 1])
        self.assertRaises(TypeError, bench.tried, len, True)
        desk = importlib.import_module("crossingstold.desk").Desk(text="watch 0 9\ndeeds")
        self.assertEqual(desk.say(line="put van 0 1 2"), "done")

    def test_no_parameter_is_called_post(self):
        # So nothing can be handed in for which NoPost would have to be raised.
        words = [word for functions in FUNCTIONS.values() for values in functions.values() for word in values]
        for _, _, making, _, methods in self.each():
            words += [*making, *[word for parameters in methods.values() for word in parameters]]
        self.assertNotIn("post", words)

    def test_the_names_of_the_interface(self):
        listed = """
            moments: ascending, between, compared, moment_of, moment_text, read_moment, rounded_down, scaled, shifted, sign_at.
            stretches: both, has, joined, lasts, less, narrowed, put_off, read_stretches, since, stretches_of, stretches_text, widened.
            regions: is_in, moved, parts, read_region, region_of, region_text, size.
            ways: at, closest, during, is_in_at, led_on, near, part, read_way, speeds, way_text.
            rules: far_back, held, held_at, names_in, read_rule, rule_text.
            reasons: reason, shows_reason.
            events: event_text, events, holding, next_event, read_event, tally.
            unseen: can_leave, can_touch, nearest, paper, shows_can_leave, shows_can_touch, shows_nearest, shows_paper.
            cones: can_be_in, earliest, is_surely_in, surely_in, when_at, when_can.
            looks: next_by, next_look, plan, rim_distance, shows_slipped, slipped.
            keeping: Post.
            pictures: sight, strip.
            benches: Bench.
            journals: journal, read_journal.
            desk: Desk."""
        told = {}
        for line in listed.split(".\n"):
            file, names = line.strip(" .\n").split(": ")
            told[file] = sorted(names.split(", "))
        self.assertEqual(told, {file: sorted([*FUNCTIONS.get(file, {}), *CLASSES.get(file, {})]) for file in {**FUNCTIONS, **CLASSES}})
