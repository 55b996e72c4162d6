"""Point 13, guarantee (g): REPORTS and RULES as they come, put right, taken back; what they tell; steps."""
import itertools
import random
import unittest

from crossingstold import benches, desk
from crossingstold.events import events
from crossingstold.keeping import Post
from crossingstold.rules import held, read_rule
from crossingstold.stretches import stretches_text
from crossingstold.ways import read_way
from tests.helpers import NEVER, number, refused, spot, worth
from tests.model import random_leaf, random_rule, random_way
from tests.test_conventions import NO_LOOKS, NO_NAMES, NO_RULE, NO_WATCHES

WATCH = ((0, 1), (10, 1))
DISC = ("disc", spot(5, 0), (4, 1))
INSIDE = ("in", "van", DISC)
EAST = ("in", "van", ("half", -1, 0, -6))
NAMES = ["a", "b2", "cart", "dog", "eel", "fox", "gnu"]


def at(moment, x, y):
    """A REPORT."""
    return (number(moment), spot(x, y))


def post_of(*reports, rules=(), watch=WATCH):
    """A Post with these REPORTS, (NAME, REPORT) each, and RULES."""
    post = Post(watch)
    for name, report in reports:
        post.put(name, report)
    for name, rule in rules:
        post.add(name, rule)
    return post


def all_of(post):
    """All that a Post tells of itself."""
    twin = post.copy()
    return (post.watch, post.reports, post.rules, post.things, post.work, twin, [refused(twin.held, name) for name, _ in post.rules], refused(twin.events), twin.work)


def steps_in(rule, things):
    """All steps that a RULE uses."""
    ways = dict(things)
    if rule[0] == "in":
        return {("in", rule[2], *leg) for leg in zip(ways[rule[1]], ways[rule[1]][1:])}
    if rule[0] == "near":
        one, other = [list(zip(ways[name], ways[name][1:])) for name in rule[1:3]]
        return {("near", rule[3], *leg, *beside) for leg in one for beside in other
                if worth(leg[0][0]) <= worth(beside[1][0]) and worth(beside[0][0]) <= worth(leg[1][0])}
    return set().union(*[steps_in(inner, things) for inner in rule[1:] if isinstance(inner[0], str)])


class Reports(unittest.TestCase):
    def test_numbers_go_on(self):
        post = Post(WATCH)
        self.assertEqual([post.watch, post.reports, post.rules, post.things, post.work], [WATCH, (), (), (), 0])
        self.assertEqual([post.put("van", at(n, 0, 0)) for n in range(3)], [0, 1, 2])
        self.assertIsNone(post.take(1))
        self.assertIsNone(post.take(2))
        self.assertEqual(post.put("van", at(7, 0, 0)), 3)
        self.assertEqual(post.reports, ((0, "van", at(0, 0, 0)), (3, "van", at(7, 0, 0))))
        post.take(0)
        post.take(3)
        self.assertEqual([post.reports, post.things, post.put("cart", at(0, 0, 0))], [(), (), 4])

    def test_things_are_sorted_by_names_and_moments(self):
        post = post_of(("van", at(5, 1, 1)), ("a9", at(3, 0, 0)), ("van", at(-2, 2, 2)), ("a10", at(0, 4, 4)), ("a9", at((1), 1, 0)), ("dog", at(0, 0, 0)), ("van", at(1, 9, 9)),
                       ("a10", at(-1, 0, 0)))
        self.assertEqual(post.things, (("a10", (at(-1, 0, 0), at(0, 4, 4))), ("a9", (at(1, 1, 0), at(3, 0, 0))), ("van", (at(-2, 2, 2), at(1, 9, 9), at(5, 1, 1)))))
        self.assertEqual([row[0] for row in post.reports], list(range(8)))
        post = post_of(("van", ((1, 2), spot(0, 0))), ("van", ((1, 3), spot(1, 0))), ("van", ((2, 5), spot(2, 0))))
        self.assertEqual([report[0] for report in post.things[0][1]], [(1, 3), (2, 5), (1, 2)])

    def test_every_sequence_tells_the_same(self):
        rows = [("van", at(0, 0, 0)), ("van", at(4, 4, 1)), ("van", at(10, 10, 0)), ("cart", at(2, 6, 0)), ("cart", at(8, 6, 0))]
        rules = (("in", INSIDE), ("near", ("since", ("near", "van", "cart", (4, 1)), EAST)))
        first = post_of(*rows, rules=rules)
        for row in itertools.permutations(rows):
            post = post_of(*row, rules=rules)
            self.assertEqual([post.things, post.held("in"), post.held("near"), post.events(), post.work],
                             [first.things, first.held("in"), first.held("near"), first.events(), first.work])
            self.assertIs(post == first, list(row) == rows)

    def test_taken(self):
        post = post_of(("van", at(1, 0, 0)), ("cart", at(1, 0, 0)))
        self.assertEqual(refused(post.put, "van", at(1, 5, 5)), ("Taken", (1, 1)))
        self.assertEqual(refused(post.put, "van", at(1, 0, 0)), ("Taken", (1, 1)))
        self.assertEqual(post.put("dog", at(1, 0, 0)), 2)
        post.take(0)
        self.assertEqual(post.put("van", at(1, 5, 5)), 3)
        self.assertEqual(refused(post.put, "van", at(1, 0, 0)), ("Taken", (1, 1)))

    def test_twelve_reports_of_a_name(self):
        post = post_of(*[("van", at(n, n, 0)) for n in range(12)])
        before = all_of(post)
        self.assertEqual(refused(post.put, "van", at(12, 0, 0)), ("Full", "van"))
        self.assertEqual(refused(post.put, "van", at(5, 0, 0)), ("Taken", (5, 1)))
        self.assertEqual(all_of(post), before)
        self.assertEqual(len(post.things[0][1]), 12)
        self.assertEqual(post.put("cart", at(12, 0, 0)), 12)
        post.correct(3, at(99, 0, 0))
        self.assertEqual(refused(post.put, "van", at(3, 0, 0)), ("Full", "van"))
        post.take(3)
        self.assertEqual(post.put("van", at(3, 0, 0)), 13)
        self.assertEqual(refused(post.put, "van", at(99, 0, 0)), ("Full", "van"))

    def test_six_names(self):
        post = post_of(*[(name, at(n, 0, 0)) for n, name in enumerate(NAMES[:6])])
        before = all_of(post)
        self.assertEqual(refused(post.put, "gnu", at(0, 0, 0)), ("Full", "gnu"))
        self.assertEqual(all_of(post), before)
        self.assertEqual(post.put("fox", at(99, 0, 0)), 6)
        post.take(5)
        self.assertEqual(refused(post.put, "gnu", at(0, 0, 0)), ("Full", "gnu"))
        post.take(6)
        self.assertEqual(post.put("gnu", at(0, 0, 0)), 7)
        self.assertEqual(refused(post.put, "fox", at(0, 0, 0)), ("Full", "fox"))
        for name in NAMES[:5]:
            post.put(name, at(50, 0, 0))
        self.assertEqual([name for name, _ in post.things], NAMES[:5])

    def test_correct(self):
        post = post_of(("van", at(1, 0, 0)), ("van", at(5, 5, 0)), ("cart", at(2, 0, 0)))
        self.assertIsNone(post.correct(1, at(5, 7, 7)))
        self.assertEqual(post.reports[1], (1, "van", at(5, 7, 7)))
        self.assertIsNone(post.correct(1, at(0, 7, 7)))
        self.assertEqual(post.things, (("van", (at(0, 7, 7), at(1, 0, 0))),))
        self.assertEqual(refused(post.correct, 1, at(1, 0, 0)), ("Taken", (1, 1)))
        self.assertEqual(refused(post.correct, 0, at(0, 7, 7)), ("Taken", (0, 1)))
        self.assertIsNone(post.correct(1, at(2, 7, 7)))
        self.assertIsNone(post.correct(2, at(1, 7, 7)))
        self.assertEqual(post.reports, ((0, "van", at(1, 0, 0)), (1, "van", at(2, 7, 7)), (2, "cart", at(1, 7, 7))))
        self.assertEqual(post.put("dog", at(0, 0, 0)), 3)

    def test_numbers_that_do_not_stand(self):
        post = post_of(("van", at(1, 0, 0)), ("van", at(5, 5, 0)), ("cart", at(2, 0, 0)))
        post.take(1)
        before = all_of(post)
        for wrong in [value for value in NEVER if value not in (5,)] + [1, 3, -1, -3, 5, 10 ** 8, (0, 1), "0", True, False]:
            for call in (lambda: post.take(wrong), lambda: post.correct(wrong, at(9, 9, 9)), lambda: post.correct(wrong, None)):
                with self.assertRaises(ValueError) as caught:
                    call()
                self.assertEqual(type(caught.exception).__name__, "NoReport")
                self.assertIs(caught.exception.value, wrong)
        self.assertEqual(all_of(post), before)
        post.take(0)
        self.assertEqual(refused(post.take, 0), ("NoReport", 0))
        self.assertEqual(refused(post.correct, 0, at(0, 0, 0)), ("NoReport", 0))

    def test_wrong_values(self):
        post = post_of(("van", at(1, 0, 0)))
        before = all_of(post)
        for wrong in NO_NAMES:
            for call in (lambda: post.put(wrong, at(3, 0, 0)), lambda: post.put(wrong, None), lambda: post.put(wrong, at(1, 0, 0)),
                         lambda: post.add(wrong, INSIDE), lambda: post.add(wrong, None)):
                with self.assertRaises(ValueError) as caught:
                    call()
                self.assertEqual(type(caught.exception).__name__, "BadName")
                self.assertIs(caught.exception.value, wrong)
        for wrong in NO_LOOKS:
            for call in (lambda: post.put("van", wrong), lambda: post.correct(0, wrong)):
                with self.assertRaises(ValueError) as caught:
                    call()
                self.assertEqual(type(caught.exception).__name__, "BadReport", wrong)
                self.assertIs(caught.exception.value, wrong)
        for wrong in NO_RULE:
            with self.assertRaises(ValueError) as caught:
                post.add("van", wrong)
            self.assertEqual(type(caught.exception).__name__, "BadRule")
            self.assertIs(caught.exception.value, wrong)
        self.assertEqual(all_of(post), before)
        for wrong in NO_WATCHES:
            with self.assertRaises(ValueError) as caught:
                Post(wrong)
            self.assertEqual(type(caught.exception).__name__, "BadWatch")
            self.assertIs(caught.exception.value, wrong)


class Rules(unittest.TestCase):
    def test_twelve_rules(self):
        post = post_of(rules=[("r" + str(n), ("near", "a", "b", (n, 1))) for n in range(12)])
        before = all_of(post)
        self.assertEqual(refused(post.add, "r12", INSIDE), ("Full", "r12"))
        self.assertEqual(refused(post.add, "r5", INSIDE), ("Taken", "r5"))
        self.assertEqual(all_of(post), before)
        self.assertIsNone(post.drop("r5"))
        self.assertEqual(refused(post.drop, "r5"), ("NoRule", "r5"))
        self.assertIsNone(post.add("r5", INSIDE))
        self.assertEqual([name for name, _ in post.rules], ["r0", "r1", "r2", "r3", "r4", "r6", "r7", "r8", "r9", "r10", "r11", "r5"])
        self.assertEqual(post.rules[-1], ("r5", INSIDE))

    def test_no_rule(self):
        post = post_of(("van", at(0, 0, 0)), ("van", at(10, 10, 0)), rules=[("in", INSIDE)])
        before = all_of(post)
        for wrong in [*NEVER, *NO_NAMES, "van", "inn", "i", INSIDE, ("in", INSIDE)]:
            for call in (lambda: post.drop(wrong), lambda: post.held(wrong)):
                with self.assertRaises(ValueError) as caught:
                    call()
                self.assertEqual(type(caught.exception).__name__, "NoRule")
                self.assertIs(caught.exception.value, wrong)
        self.assertEqual(all_of(post), before)

    def test_a_rule_of_names_that_are_not_there(self):
        post = post_of(("van", at(0, 0, 0)), rules=[("in", INSIDE), ("near", ("near", "van", "cart", (1, 1)))])
        self.assertEqual([refused(post.held, "in"), refused(post.events)], [("BadThings", ()), ("BadThings", ())])
        post.put("dog", at(0, 0, 0))
        post.put("dog", at(1, 0, 0))
        self.assertEqual([refused(post.held, "in"), refused(post.held, "near")], [("NoThing", "van"), ("NoThing", "cart")])
        self.assertEqual(refused(post.events), ("NoThing", "van"))
        post.put("van", at(1, 0, 0))
        self.assertEqual([refused(post.held, "in"), refused(post.held, "near"), refused(post.events)], [(), ("NoThing", "cart"), ("NoThing", "cart")])
        self.assertEqual(post.work, 1)
        self.assertEqual(refused(Post(WATCH).events), ("BadThings", ()))
        self.assertEqual(post_of(("van", at(0, 0, 0)), ("van", at(1, 0, 0))).events(), ())


class Work(unittest.TestCase):
    def test_a_late_report_changes_two_legs_alone(self):
        post = post_of(*[("van", at(n, n, 0)) for n in (0, 2, 4, 6, 8)], rules=[("in", INSIDE)])
        self.assertEqual([post.work, stretches_text(post.held("in")), post.work], [0, "[3, 7]", 4])
        post.put("van", at(5, 9, 9))
        self.assertEqual([stretches_text(post.held("in")), post.work, post.events() == events(post.rules, post.things, WATCH), post.work][1:], [6, True, 6])
        post.take(5)
        self.assertEqual([stretches_text(post.held("in")), post.work], ["[3, 7]", 6])
        post.correct(2, at(4, 4, 1))
        post.correct(2, at(4, 4, 0))
        self.assertEqual([stretches_text(post.held("in")), post.work], ["[3, 7]", 6])

    def test_each_unlike_step_once(self):
        post = post_of(("van", at(0, 0, 0)), ("van", at(10, 10, 0)), ("cart", at(0, 0, 0)), ("cart", at(10, 10, 0)),
                       rules=[("one", INSIDE), ("two", ("not", ("and", INSIDE, ("long", (1, 1), INSIDE)))), ("cart", ("in", "cart", DISC)), ("east", EAST),
                              ("disc", ("in", "van", ("not", DISC)))])
        worked = []
        for name, _ in post.rules:
            post.held(name)
            worked.append(post.work)
        # Also cart goes by the same leg: its step in this REGION is known.
        self.assertEqual(worked, [1, 1, 1, 2, 3])
        post.events()
        self.assertEqual(post.work, 3)

    def test_near(self):
        legs = [("van", at(n, n, 0)) for n in (0, 2, 4)] + [("cart", at(n, 5, n)) for n in (1, 2, 3, 9)] + [("dog", at(n, 0, 0)) for n in (4, 5)]
        for rule, told in ((("near", "van", "cart", (1, 1)), 5), (("near", "cart", "van", (1, 1)), 5), (("near", "van", "van", (1, 1)), 4), (("near", "cart", "cart", (0, 1)), 7),
                           (("near", "van", "dog", (1, 1)), 1), (("near", "dog", "dog", (1, 1)), 1), (("near", "dog", "cart", (1, 1)), 1),
                           (("and", ("near", "van", "cart", (1, 1)), ("near", "cart", "van", (1, 1))), 10),
                           (("or", ("near", "van", "cart", (1, 1)), ("near", "van", "cart", (2, 1)), ("near", "van", "cart", (1, 1))), 10),
                           (("since", ("near", "van", "van", (1, 1)), ("in", "van", DISC)), 6)):
            post = post_of(*legs, rules=[("r", rule)])
            post.held("r")
            self.assertEqual(post.work, told, rule)
            self.assertEqual(post.work, len(steps_in(rule, post.things)))

    def test_steps_beyond_the_watch_are_used_too(self):
        post = post_of(*[("van", at(n, n, 0)) for n in (-8, -6, -4, 20, 22)], rules=[("in", INSIDE), ("near", ("near", "van", "van", (1, 1)))])
        self.assertEqual([stretches_text(post.held("in")), post.work], ["[3, 7]", 4])
        post.held("near")
        self.assertEqual(post.work, 4 + 10)

    def test_calls_that_raise_use_none(self):
        post = post_of(("van", at(0, 0, 0)), ("van", at(10, 10, 0)), ("cart", at(0, 0, 0)),
                       rules=[("in", INSIDE), ("both", ("or", INSIDE, ("in", "cart", DISC)))])
        for call in (lambda: post.held("both"), lambda: post.events(), lambda: post.held("none"), lambda: post.take(7), lambda: post.add("in", EAST)):
            refused(call)
            self.assertEqual(post.work, 0)
        post.held("in")
        self.assertEqual(post.work, 1)

    def test_regions_nested_as_deep_as_they_may_be(self):
        region = ("disc", ((1, 2), (1, 3)), (4, 1))
        for n in range(7):
            region = (("not", region), ("and", region, ("half", 1, n, 2)), ("or", ("half", 1, 0, n), region))[n % 3]
        post = post_of(*[("van", at(n, n, 0)) for n in (0, 2, 4)], rules=[("in", ("in", "van", region)), ("not", ("in", "van", region[1]))])
        for name in ("in", "not", "in"):
            self.assertEqual(post.held(name), held(dict(post.rules)[name], post.things, WATCH))
        self.assertEqual(post.work, 4)

    def test_unlike_regions_that_tell_the_same_are_unlike_steps(self):
        post = post_of(("van", at(0, 0, 0)), ("van", at(10, 10, 0)))
        for n, region in enumerate((DISC, ("and", DISC), ("or", DISC), ("not", ("not", DISC)), ("half", 1, 0, 1), ("half", 2, 0, 2), ("half", -1, 0, 1), ("half", 1, 0, -1))):
            post.add("r" + str(n), ("in", "van", region))
            post.held("r" + str(n))
            self.assertEqual(post.work, n + 1)

    def test_a_copy_has_kept_what_was_kept(self):
        post = post_of(("van", at(0, 0, 0)), ("van", at(10, 10, 0)), ("cart", at(1, 0, 0)), ("cart", at(9, 10, 0)),
                       rules=[("in", INSIDE), ("east", EAST), ("near", ("near", "van", "cart", (1, 1))), ("disc", ("in", "cart", DISC))])
        for name in ("in", "east", "near"):
            post.held(name)
        twin = post.copy()
        other = twin.copy()
        self.assertEqual([twin.work, other.work], [3, 3])
        for name, work in (("in", 3), ("near", 3), ("east", 3), ("disc", 4), ("in", 4)):
            twin.held(name)
            self.assertEqual(twin.work, work)
        other.held("disc")
        self.assertEqual([post.work, twin.work, other.work, other.copy().work], [3, 4, 4, 4])
        post.events()
        self.assertEqual(post.work, 4)

    def test_copies_go_apart_also_in_work(self):
        post = post_of(("van", at(0, 0, 0)), ("van", at(10, 10, 0)), rules=[("in", INSIDE), ("east", EAST)])
        post.held("in")
        twin = post.copy()
        self.assertIsInstance(twin, Post)
        self.assertIsNot(twin, post)
        self.assertEqual([twin == post, twin.work, twin.reports, twin.rules, twin.things], [True, 1, post.reports, post.rules, post.things])
        twin.held("in")
        self.assertEqual([twin.work, post.work], [1, 1])
        twin.held("east")
        self.assertEqual([twin.work, post.work], [2, 1])
        self.assertTrue(twin == post)
        post.held("east")
        self.assertEqual(post.work, 2)
        post.put("van", at(5, 5, 5))
        self.assertEqual([len(twin.reports), len(twin.things[0][1]), len(post.things[0][1]), twin == post], [2, 2, 3, False])
        self.assertEqual(twin.put("van", at(5, 5, 5)), 2)
        self.assertTrue(twin == post)
        post.held("in")
        self.assertEqual([post.work, twin.work], [4, 2])
        twin.drop("in")
        self.assertEqual([len(post.rules), len(twin.rules)], [2, 1])
        post.take(0)
        self.assertEqual([row[0] for row in twin.reports], [0, 1, 2])


class Equality(unittest.TestCase):
    def test_by_watch_reports_rules_and_the_next_number(self):
        def made(*more, rules=(("in", INSIDE), ("east", EAST)), watch=WATCH):
            return post_of(("van", at(0, 0, 0)), ("van", at(9, 9, 0)), *more, rules=rules, watch=watch)
        self.assertTrue(made() == made())
        self.assertFalse(made() != made())
        self.assertFalse(made() == made(watch=((0, 1), (9, 1))))
        self.assertFalse(made() == made(("van", at(10, 9, 0))))
        self.assertFalse(made() == made(rules=(("east", EAST), ("in", INSIDE))))
        self.assertFalse(made() == made(rules=(("in", INSIDE),)))
        self.assertFalse(made() == post_of(("van", at(9, 9, 0)), ("van", at(0, 0, 0)), rules=made().rules))
        one, other = made(("dog", at(0, 0, 0))), made()
        one.take(2)
        self.assertEqual(one.reports, other.reports)
        self.assertTrue(one != other)
        other.put("dog", at(0, 0, 0))
        other.take(2)
        self.assertTrue(one == other)
        one.held("in")
        self.assertTrue(one == other)
        one.correct(0, at(0, 1, 0))
        self.assertTrue(one != other)
        one.correct(0, at(0, 0, 0))
        self.assertTrue(one == other)

    def test_with_other_values(self):
        post = Post(WATCH)
        for value in [*NEVER, WATCH, (), benches.Bench(WATCH), desk.Desk("watch 0 10\ndeeds"), Post, (WATCH, (), (), 0)]:
            self.assertFalse(post == value)
            self.assertTrue(post != value)
            self.assertFalse(value == post)
        self.assertTrue([post] == [Post(WATCH)])
        self.assertIn(post, (None, 1, Post(WATCH)))


class Model:
    """A Post again, as plain lists, with all that it tells reckoned from nothing."""

    def __init__(self):
        self.rows, self.rules, self.following, self.used = {}, [], 0, set()

    def things(self):
        """The THINGS."""
        told = {}
        for name, report in self.rows.values():
            told.setdefault(name, []).append(report)
        return tuple([(name, tuple(sorted(told[name], key=lambda report: worth(report[0])))) for name in sorted(told) if len(told[name]) > 1])

    def put(self, name, report):
        """As a Post's."""
        own = [row[1][0] for row in self.rows.values() if row[0] == name]
        if report[0] in own:
            return ("Taken", report[0])
        if len(own) == 12 or (not own and len({row[0] for row in self.rows.values()}) == 6):
            return ("Full", name)
        self.rows[self.following] = (name, report)
        self.following += 1
        return self.following - 1

    def take(self, n):
        """As a Post's."""
        return ("NoReport", n) if self.rows.pop(n, None) is None else None

    def correct(self, n, report):
        """As a Post's."""
        if n not in self.rows:
            return ("NoReport", n)
        if report[0] in [row[1][0] for m, row in self.rows.items() if row[0] == self.rows[n][0] and m != n]:
            return ("Taken", report[0])
        self.rows[n] = (self.rows[n][0], report)

    def add(self, name, rule):
        """As a Post's."""
        if name in dict(self.rules):
            return ("Taken", name)
        if len(self.rules) == 12:
            return ("Full", name)
        self.rules.append((name, rule))

    def drop(self, name):
        """As a Post's."""
        if name not in dict(self.rules):
            return ("NoRule", name)
        self.rules = [pair for pair in self.rules if pair[0] != name]

    def use(self, rules, told):
        """What was told of these RULES, whose steps are used if nothing was raised."""
        if not (told and isinstance(told[0], str)):
            for rule in rules:
                self.used |= steps_in(rule, self.things())
        return told

    def held(self, name):
        """As a Post's."""
        if name not in dict(self.rules):
            return ("NoRule", name)
        rule = dict(self.rules)[name]
        return self.use([rule], refused(held, rule, self.things(), WATCH))

    def events(self):
        """As a Post's."""
        return self.use([rule for _, rule in self.rules], refused(events, tuple(self.rules), self.things(), WATCH))


class Long(unittest.TestCase):
    def test_long_rows_of_deeds_against_what_all_from_nothing_tells(self):
        chance = random.Random(41)
        told_some = 0
        for _ in range(25):
            post, model = Post(WATCH), Model()
            spare = []
            for _ in range(60):
                report = chance.choice(random_way(chance, 4))
                deed = chance.choice([
                    ("put", chance.choice(NAMES[:chance.choice([2, 7])]), report), ("put", chance.choice(NAMES[:2]), report), ("put", "a", report),
                    ("take", chance.randint(0, 20)), ("correct", chance.randint(0, 12), report), ("add", "r" + str(chance.randint(0, 4)), random_rule(
                        chance, 3, NAMES[:2], [random_leaf(chance, NAMES[:2]) for _ in range(3)], worth((1, 1)))),
                    ("drop", "r" + str(chance.randint(0, 4))), ("held", "r" + str(chance.randint(0, 4))), ("held", "r" + str(chance.randint(0, 4))), ("events",)])
                told = refused(getattr(post, deed[0]), *deed[1:])
                self.assertEqual(told, getattr(model, deed[0])(*deed[1:]), deed)
                told_some += deed[0] in ("held", "events") and bool(told) and not isinstance(told[0], str)
                self.assertEqual(post.reports, tuple([(n, *model.rows[n]) for n in sorted(model.rows)]))
                self.assertEqual([post.rules, post.things, post.work], [tuple(model.rules), model.things(), len(model.used)])
                if chance.random() < 0.1:
                    spare.append((post.copy(), all_of(post.copy())))
            for twin, before in spare:
                self.assertEqual(all_of(twin.copy()), before)
        self.assertGreater(told_some, 60)

    def test_put_right_is_as_put_at_once(self):
        chance = random.Random(42)
        for _ in range(30):
            way, rule = random_way(chance, 6), read_rule("(lately 1/2 (in van (disc 0 0 4)))")
            post = Post(WATCH)
            for report in chance.sample(way, len(way)):
                wrong = chance.random() < 0.5
                n = post.put("van", (number(worth(report[0]) + 100), spot(0, 0)) if wrong else report)
                if wrong:
                    post.correct(n, report)
            post.add("r", rule)
            self.assertEqual(post.things, (("van", way),))
            self.assertEqual(post.held("r"), held(rule, (("van", way),), WATCH))

    def test_deeds_that_are_refused_leave_all_as_it_was(self):
        post = post_of(*[("van", report) for report in read_way("0 0 0 ; 5 5 5 ; 10 0 0")], ("cart", at(1, 1, 1)), rules=[("in", INSIDE), ("no", ("in", "cart", DISC))])
        post.held("in")
        before = all_of(post)
        for call in (lambda: post.put("van", at(5, 0, 0)), lambda: post.put("Van", at(1, 0, 0)), lambda: post.put("van", None), lambda: post.take(4), lambda: post.take(True),
                     lambda: post.correct(0, at(5, 0, 0)), lambda: post.correct(0, None), lambda: post.correct(9, at(1, 0, 0)), lambda: post.add("in", EAST),
                     lambda: post.add("new", None), lambda: post.add("", EAST), lambda: post.drop("new"), lambda: post.held("no"), lambda: post.events(), lambda: post.held("new")):
            self.assertRaises(ValueError, call)
            self.assertEqual(all_of(post), before)


if __name__ == "__main__":
    unittest.main()
