"""Point 9, guarantee (c): EVENTS, each beginning and each end, in sequence."""
import random
import unittest
from fractions import Fraction

from crossingstold.events import event_text, events, holding, next_event, read_event, tally
from crossingstold.rules import held, read_rule
from crossingstold.stretches import has
from crossingstold.ways import read_way
from tests.helpers import NO_MOMENTS, decimal_of, number, order_of, refused, shown_wrong
from tests.model import between_of, random_leaf, random_rule, random_way

THINGS = (("van", read_way("0 0 0 ; 10 10 0")),)
WATCH = ((0, 1), (10, 1))
ROOT = (1, -10, 23, -1)


def on(low, high):
    """The text of a RULE that is so while the van is from low to high: at the moments from low to high."""
    return f"(in van (and (half -1 0 {-low}) (half 1 0 {high})))"


def rules_of(**texts):
    """RULES by the NAMES, in this sequence."""
    return tuple([(name, read_rule(text)) for name, text in texts.items()])


def texts_of(rules, watch=WATCH):
    """The texts of the EVENTS."""
    return [event_text(event) for event in events(rules, THINGS, watch)]


class Sequence(unittest.TestCase):
    def test_one_rule(self):
        for text, told in (
                (on(3, 7), ["r begins in 3", "r ends in 7"]), (f"(not {on(3, 7)})", ["r begins in 0", "r ends out 3", "r begins out 7", "r ends in 10"]),
                # For one moment alone, all but one moment, never, always.
                (on(4, 4), ["r begins in 4", "r ends in 4"]), (f"(not {on(4, 4)})", ["r begins in 0", "r ends out 4", "r begins out 4", "r ends in 10"]),
                (on(8, 7), []), (on(-5, 20), ["r begins in 0", "r ends in 10"]),
                (on(0, 0), ["r begins in 0", "r ends in 0"]), (on(10, 12), ["r begins in 10", "r ends in 10"]),
                (f"(not {on(0, 0)})", ["r begins out 0", "r ends in 10"]), (f"(not {on(10, 10)})", ["r begins in 0", "r ends out 10"]),
                (f"(not (or {on(0, 0)} {on(10, 10)}))", ["r begins out 0", "r ends out 10"]),
                (f"(not (or {on(4, 4)} {on(6, 6)}))",
                 ["r begins in 0", "r ends out 4", "r begins out 4", "r ends out 6", "r begins out 6", "r ends in 10"]),
                (f"(or {on(1, 2)} {on(4, 4)} {on(7, 7)})",
                 ["r begins in 1", "r ends in 2", "r begins in 4", "r ends in 4", "r begins in 7", "r ends in 7"]),
                ("(in van (disc 5 0 2))", ["r begins in root 1 -10 23 low", "r ends in root 1 -10 23 high"])):
            self.assertEqual(texts_of(rules_of(r=text)), told, text)

    def test_several_at_one_moment_come_by_the_sequence_of_rules(self):
        rules = rules_of(z=f"(not {on(4, 4)})", y=on(4, 4), x=on(2, 4), w=on(4, 6), v=f"(not {on(2, 6)})", a=on(4, 4))
        told = ["z begins in 0", "v begins in 0", "x begins in 2", "v ends out 2", "z ends out 4", "z begins out 4", "y begins in 4", "y ends in 4",
                "x ends in 4", "w begins in 4", "a begins in 4", "a ends in 4", "w ends in 6", "v begins out 6", "z ends in 10", "v ends in 10"]
        self.assertEqual(texts_of(rules), told)
        # Put the other way round: the sequence of RULES, not that of NAMES, and of each RULE by itself.
        self.assertEqual(texts_of(rules[::-1]),
                         ["v begins in 0", "z begins in 0", "v ends out 2", "x begins in 2", "a begins in 4", "a ends in 4", "w begins in 4",
                          "x ends in 4", "y begins in 4", "y ends in 4", "z ends out 4", "z begins out 4", "v begins out 6", "w ends in 6",
                          "v ends in 10", "z ends in 10"])

    def test_roots_stand_between_fractions(self):
        rules = rules_of(a="(in van (disc 5 0 2))", b=on(3, 6), c="(in van (disc 5 0 3))", d="(in van (disc 5 0 4))")
        self.assertEqual(texts_of(rules), [
            "b begins in 3", "d begins in 3", "c begins in root 1 -10 22 low", "a begins in root 1 -10 23 low", "b ends in 6",
            "a ends in root 1 -10 23 high", "c ends in root 1 -10 22 high", "d ends in 7"])

    def test_ends_of_the_watch(self):
        rules = rules_of(a=on(3, 7), b=f"(not {on(3, 7)})")
        for watch, told in (((4, 6), ["a begins in 4", "a ends in 6"]), ((3, 7), ["a begins in 3", "a ends in 7"]),
                            ((7, 9), ["a begins in 7", "a ends in 7", "b begins out 7", "b ends in 9"]),
                            ((-4, 3), ["b begins in -4", "a begins in 3", "b ends out 3", "a ends in 3"]),
                            ((11, 12), ["b begins in 11", "b ends in 12"])):
            told = sorted(told, key=lambda text: (Fraction(text.split(" ")[3]), text[0]))
            self.assertEqual(texts_of(rules, (number(watch[0]), number(watch[1]))), told)

    def test_no_rules(self):
        self.assertEqual([events((), THINGS, WATCH), next_event((), THINGS, WATCH, (1, 1)), holding((), THINGS, WATCH, (1, 1)),
                          tally((), THINGS, WATCH, (0, 1), (1, 1))], [(), None, (), ()])

    def test_kinds(self):
        for event in events(rules_of(a=f"(not {on(3, 7)})"), THINGS, WATCH):
            self.assertEqual([type(part) for part in event], [tuple, str, str, bool])

    def test_many(self):
        chance = random.Random(1)
        names, seen = ["a", "b"], 0
        for _ in range(60):
            things = tuple([(name, random_way(chance)) for name in names])
            watch = (number(chance.randint(-2, 1)), number(chance.randint(2, 7)))
            leaves = [random_leaf(chance, names) for _ in range(3)]
            rules = []
            for at in range(chance.randint(1, 5)):
                rules.append(("r" + str(at), random_rule(chance, 3, names, leaves, Fraction(1, 2))))
            chance.shuffle(rules)
            rules = tuple(rules)
            told = events(rules, things, watch)
            wanted = []
            for at, (name, rule) in enumerate(rules):
                for n, (low, low_in, high, high_in) in enumerate(held(rule, things, watch)):
                    wanted.append((decimal_of(low), at, 2 * n, (low, name, "begins", low_in)))
                    wanted.append((decimal_of(high), at, 2 * n + 1, (high, name, "ends", high_in)))
            self.assertEqual(told, tuple([row[-1] for row in sorted(wanted)]))
            seen += len(told)
            self.check_moments(rules, things, watch, told)
        self.assertGreater(seen, 150)

    def check_moments(self, rules, things, watch, told):
        """That next_event, holding and tally tell what events and held do."""
        row = sorted({watch[0], watch[1], (-9, 1), (9, 1), *[event[0] for event in told]}, key=decimal_of)
        row += [between_of(one, other) for one, other in zip(row, row[1:])]
        for moment in row:
            later = [event for event in told if order_of(event[0], moment) > 0]
            self.assertEqual(next_event(rules, things, watch, moment), later[0] if later else None)
            now = tuple([name for name, rule in rules if has(held(rule, things, watch), moment)])
            self.assertEqual(holding(rules, things, watch, moment), now)
            low = row[0] if len(told) % 2 else row[len(row) // 2]
            within = [event for event in told if order_of(low, event[0]) < 0 <= order_of(moment, event[0])]
            counts = tuple([(name, *[sum(event[1:3] == (name, word) for event in within) for word in ("begins", "ends")])
                            for name, _ in rules])
            self.assertEqual(tally(rules, things, watch, low, moment), counts)


class NextEvent(unittest.TestCase):
    def test_at_moments_of_events_between_them_and_behind_the_last_one(self):
        rules = rules_of(a=on(3, 7), b=f"(not {on(4, 4)})", c="(in van (disc 5 0 2))")
        row = [((-5, 1), "b begins in 0"), ((-1, 10 ** 6), "b begins in 0"), ((0, 1), "a begins in 3"), ((2, 1), "a begins in 3"),
               ((3, 1), "c begins in root 1 -10 23 low"), (ROOT, "b ends out 4"), ((7, 2), "c begins in root 1 -10 23 low"),
               ((18, 5), "b ends out 4"), ((4, 1), "c ends in root 1 -10 23 high"), ((1, -10, 23, 1), "a ends in 7"), ((13, 2), "a ends in 7"),
               ((7, 1), "b ends in 10"), ((9999, 1000), "b ends in 10"), ((1, 0, -99, 1), "b ends in 10")]
        for moment, told in row:
            self.assertEqual(event_text(next_event(rules, THINGS, WATCH, moment)), told, moment)
        for moment in ((10, 1), (10001, 1000), (99, 1), (1, 0, -101, 1)):
            self.assertIsNone(next_event(rules, THINGS, WATCH, moment))
        self.assertIsNone(next_event(rules_of(a=on(8, 7)), THINGS, WATCH, (-9, 1)))


class Holding(unittest.TestCase):
    def test_at_ends_counted_in_and_not(self):
        rules = rules_of(out=f"(not {on(3, 7)})", a=on(3, 7), b=on(4, 4), c="(in van (disc 5 0 2))", d=f"(not {on(4, 4)})", e="(not (in van (disc 5 0 2)))")
        for moment, told in (((0, 1), "out d e"), ((3, 1), "a d e"), ((2999, 1000), "out d e"), (ROOT, "a c d"), ((18, 5), "a c d"), ((7, 2), "a d e"),
                             ((4, 1), "a b c"), ((1, -10, 23, 1), "a c d"), ((7, 1), "a d e"), ((7001, 1000), "out d e"), ((10, 1), "out d e"),
                             ((10001, 1000), ""), ((-1, 1), ""), ((99, 1), ""), ((1, 0, -2, -1), "")):
            self.assertEqual(" ".join(holding(rules, THINGS, WATCH, moment)), told, moment)
        self.assertEqual(holding(rules[::-1], THINGS, WATCH, (4, 1)), ("c", "b", "a"))


class Tally(unittest.TestCase):
    def test_at_moments_of_events(self):
        rules = rules_of(a=on(3, 7), b=f"(not {on(4, 4)})", c=on(4, 4), d=on(8, 7))
        for low, high, told in (
                ((-1, 1), (10, 1), (1, 1, 2, 2, 1, 1, 0, 0)), ((0, 1), (10, 1), (1, 1, 1, 2, 1, 1, 0, 0)), ((0, 1), (9, 1), (1, 1, 1, 1, 1, 1, 0, 0)),
                ((3, 1), (7, 1), (0, 1, 1, 1, 1, 1, 0, 0)), ((2, 1), (3, 1), (1, 0, 0, 0, 0, 0, 0, 0)), ((3, 1), (4, 1), (0, 0, 1, 1, 1, 1, 0, 0)),
                ((4, 1), (7, 1), (0, 1, 0, 0, 0, 0, 0, 0)), ((7, 1), (9, 1), (0,) * 8), ((-9, 1), (-1, 1), (0,) * 8), ((10, 1), (99, 1), (0,) * 8),
                ((-1, 1), (0, 1), (0, 0, 1, 0, 0, 0, 0, 0)), (ROOT, (4, 1), (0, 0, 1, 1, 1, 1, 0, 0)), ((2, 1), ROOT, (1, 0, 0, 0, 0, 0, 0, 0)),
                # Low above high, or the same.
                ((10, 1), (0, 1), (0,) * 8), ((7, 1), (3, 1), (0,) * 8), ((4, 1), (4, 1), (0,) * 8), ((99, 1), (-99, 1), (0,) * 8)):
            told = tuple([(name, *told[2 * at:2 * at + 2]) for at, name in enumerate("abcd")])
            self.assertEqual(tally(rules, THINGS, WATCH, low, high), told, (low, high))

    def test_at_roots(self):
        rules = rules_of(a="(in van (disc 5 0 2))")
        for low, high, told in ((ROOT, (10, 1), (0, 1)), ((7, 2), (18, 5), (1, 0)), ((0, 1), ROOT, (1, 0)), (ROOT, (1, -10, 23, 1), (0, 1)),
                                ((0, 1), (1, -10, 23, 1), (1, 1)), ((1, -10, 23, 1), (10, 1), (0, 0)), ((1, -10, 22, -1), ROOT, (1, 0))):
            self.assertEqual(tally(rules, THINGS, WATCH, low, high), (("a", *told),))


class Texts(unittest.TestCase):
    def test_there_and_back(self):
        for event, text in (
                (((7, 1), "stay", "begins", True), "stay begins in 7"), (((-1, 2), "a1234567", "ends", False), "a1234567 ends out -1/2"),
                (((1, 0, -2, 1), "stay", "begins", True), "stay begins in root 1 0 -2 high"), ((ROOT, "in", "ends", True), "in ends in root 1 -10 23 low"),
                (((0, 1), "out", "begins", False), "out begins out 0"), (((0, 1), "begins", "ends", False), "begins ends out 0")):
            self.assertEqual([event_text(event), read_event(text)], [text, event])
        great = ((10 ** 5000 + 1, 10 ** 5000), "a", "ends", True)
        self.assertEqual(read_event(event_text(great)), great)

    def test_nearly_texts(self):
        for text in (
                "", " ", "stay", "stay begins", "stay begins in", "stay begins in ", "stay begins 7", "begins in 7", "in 7", "stay in 7",
                "stay begins  in 7", "stay  begins in 7", " stay begins in 7", "stay begins in 7 ", "stay begins in  7", "stay begins in 7\n",
                "stay\nbegins in 7", "Stay begins in 7", "stay Begins in 7", "stay begins In 7", "stay begin in 7", "stay starts in 7", "stay end out 7",
                "stay begins at 7", "stay begins True 7", "stay begins in 7 8", "stay begins in 14/2", "stay begins in 7/1", "stay begins in +7",
                "stay begins in 07", "stay begins in root 1 0 -2", "stay begins in root 1 0 -4 high", "stay begins in root 2 0 -4 high",
                "stay begins in 1 0 -2 high", "stay begins in seven", "1stay begins in 7", "stayforlo begins in 7", "st-ay begins in 7", "begins stay in 7",
                "stay in begins 7", "7 in begins stay", "stay,begins,in,7", "stay begins in 7; stay ends in 8", "stay begins out in 7", "(stay begins in 7)"):
            shown_wrong(self, read_event, text, name="BadEvent")

    def test_nearly_events(self):
        good = ((7, 1), "stay", "begins", True)
        for wrong in (list(good), good[:3], (*good, None), ((7, 1), "stay", "begins", 1), ((7, 1), "stay", "begins", 0), ((7, 1), "stay", "begins", None),
                      ((7, 1), "stay", "begins", "in"), ((7, 1), "stay", "begin", True), ((7, 1), "stay", "Begins", True), ((7, 1), "stay", "", True),
                      ((7, 1), "stay", ("begins",), True), ((7, 1), "stay", None, True), ((7, 1), "stay", True, "begins"), ((7, 1), "begins", "stay", True),
                      ("stay", (7, 1), "begins", True), ((7, 1), "", "begins", True), ((7, 1), "Stay", "begins", True), ((7, 1), "1", "begins", True),
                      ((7, 1), "stayforlo", "begins", True), ((7, 1), ("stay",), "begins", True), ((7, 1), None, "begins", True), (good,), (good, good),
                      ("7", "stay", "begins", True), (7, "stay", "begins", True), ((1, 0, -4, 1), "stay", "begins", True), "stay begins in 7"):
            shown_wrong(self, event_text, wrong, name="BadEvent")
        for wrong in NO_MOMENTS:
            shown_wrong(self, event_text, (wrong, "stay", "begins", True), name="BadEvent")


class Errors(unittest.TestCase):
    CALLS = [(events, ()), (next_event, ((1, 1),)), (holding, ((1, 1),)), (tally, ((1, 1), (2, 1)))]

    def test_none_to_twelve_rules_with_unlike_names(self):
        rule = read_rule(on(3, 7))
        rules = tuple([("r" + str(at), rule) for at in range(14)])
        for function, others in self.CALLS:
            for many in (0, 1, 11, 12):
                told = function(rules[:many], THINGS, WATCH, *others)
                if function is events:
                    self.assertEqual(len(told), 2 * many)
            for wrong in (rules[:13], rules, list(rules[:2]), (rules[0], rules[0]), (rules[0], rules[1], rules[0]), (rules[0], None), (rules[0], list(rules[1])),
                          (("r", rule, rule),), (("r",),), ((rule, "r"),), rules[0], (("R", rule),), (("", rule),), (("ninesigns", rule),), ((None, rule),),
                          (("r", None),), (("r", ("not",)),), (("r", [rule]),), (("r", on(3, 7)),), rule, (rule,), {"r": rule}, None, "r", 0, True):
                shown_wrong(self, function, wrong, THINGS, WATCH, *others, name="BadRules")
        # Their NAMES need not ascend.
        self.assertEqual([row[0] for row in tally(rules[:3][::-1], THINGS, WATCH, (0, 1), (1, 1))], ["r2", "r1", "r0"])

    def test_their_sequence(self):
        good = rules_of(a=on(3, 7))
        unknown = rules_of(a=on(3, 7), b="(near zoo bus 1)", c="(in ant (half 1 0 0))")
        for values, told in (
                ((None, 1, 2, 3, 4), ("BadRules", None)), ((good, 1, 2, 3, 4), ("BadThings", 1)), ((unknown, 1, 2, 3, 4), ("BadThings", 1)),
                ((unknown, THINGS, 2, 3, 4), ("BadWatch", 2)), ((unknown, THINGS, WATCH, 3, 4), ("NoThing", "bus")),
                ((unknown[2:], THINGS, WATCH, 3, 4), ("NoThing", "ant")), ((unknown[::-1], THINGS, WATCH, 3, 4), ("NoThing", "ant")),
                ((good, THINGS, WATCH, 3, 4), ("BadMoment", 3)), ((good, THINGS, WATCH, (1, 1), 4), ("BadMoment", 4)),
                (((), THINGS, WATCH, 3, 4), ("BadMoment", 3)), (((), 1, WATCH, 3, 4), ("BadThings", 1)), (((), THINGS, 2, 3, 4), ("BadWatch", 2))):
            self.assertEqual(refused(tally, *values), told)
            if values[3] == 3:
                self.assertEqual(refused(next_event, *values[:4]), told)
                self.assertEqual(refused(holding, *values[:4]), told)
                if told[0] != "BadMoment":
                    self.assertEqual(refused(events, *values[:3]), told)

    def test_moments_may_lie_beyond_the_watch_and_be_roots(self):
        good = rules_of(a=on(3, 7))
        for moment in ((-99, 1), (99, 1), (1, 0, -2, -1), (1, 0, -999, 1)):
            self.assertIn(next_event(good, THINGS, WATCH, moment), (None, ((3, 1), "a", "begins", True)))
            self.assertEqual(holding(good, THINGS, WATCH, moment), ())
            self.assertIn(tally(good, THINGS, WATCH, moment, (5, 1)), ((("a", 1, 0),), (("a", 0, 0),)))
