"""Point 3, over the whole program: what several files tell of the same things, and a story that goes through all of them."""
import itertools
import random
import unittest
from fractions import Fraction

from crossingstold.benches import Bench
from crossingstold.cones import can_be_in, earliest, is_surely_in, surely_in, when_at, when_can
from crossingstold.desk import Desk
from crossingstold.errors import WatchError
from crossingstold.events import event_text, events, holding, next_event, read_event, tally
from crossingstold.journals import journal, read_journal
from crossingstold.keeping import Post
from crossingstold.looks import next_look, plan, shows_slipped, slipped
from crossingstold.moments import ascending, between, compared, moment_text, read_moment, scaled, shifted
from crossingstold.pictures import sight, strip
from crossingstold.reasons import reason, shows_reason
from crossingstold.regions import read_region, region_of, region_text
from crossingstold.rules import held, held_at, read_rule, rule_text
from crossingstold.stretches import both, has, less, read_stretches, stretches_text
from crossingstold.unseen import can_leave, can_touch, paper, shows_can_leave, shows_can_touch, shows_paper
from crossingstold.ways import at, during, is_in_at, part, read_way, speeds
from tests.geometry import as_float, random_patch, square_patch
from tests.helpers import number, refused, spot, worth
from tests.model import random_leaf, random_rule, random_way

WATCH = ((0, 1), (10, 1))


def speed_for(way, more=0):
    """A SPEED that is enough for a WAY, just so where it is a FRACTION."""
    most = max(worth(square) for square in speeds(way))
    for n in range(1, 400):
        if Fraction(n, 12) ** 2 >= most:
            return number(Fraction(n, 12) + more)
    raise ValueError(way)


class Across(unittest.TestCase):
    """Two REPORTS of a WAY as LOOKS, and what can have been between them."""

    def cases(self, seed, many):
        chance = random.Random(seed)
        for _ in range(many):
            way = random_way(chance, 6)
            low, high = sorted(chance.sample(range(len(way)), 2))
            yield way[low:high + 1], speed_for(way, chance.choice([0, 0, Fraction(1, 3), 2])), random_patch(chance, 4)

    def test_what_is_on_the_way_can_have_been(self):
        met = [0, 0]
        for way, speed, patch in self.cases(91, 200):
            one, other, was = way[0], way[-1], during(region_of(patch), way)
            can = when_can(one, other, speed, patch)
            # All moments at which it was there are such at which it can have been there.
            self.assertEqual(less(was, can), ())
            for low, _, high, _ in was:
                for moment in (low, high):
                    self.assertTrue(has(can, moment))
                    self.assertTrue(can_be_in(one, other, speed, patch, moment))
                    self.assertTrue(has(when_at(one, other, speed, at(way, moment)), moment))
                self.assertGreaterEqual(compared(low, earliest(one, speed, patch)), 0)
            if was:
                self.assertIsNotNone(can_touch(one, other, speed, patch))
                self.assertIsNone(paper(one, other, speed, patch))
            met[bool(was)] += 1
        self.assertGreater(min(met), 40)

    def test_what_surely_was_is_so_on_the_way(self):
        met = 0
        for way, speed, patch in self.cases(92, 200):
            surely = surely_in(way[0], way[-1], speed, patch)
            self.assertEqual(less(surely, during(region_of(patch), way)), ())
            self.assertEqual(less(surely, when_can(way[0], way[-1], speed, patch)), ())
            for low, _, high, _ in surely:
                met += 1
                for moment in (low, high, low if low == high else between(low, high)):
                    self.assertTrue(is_in_at(region_of(patch), way, moment))
                    self.assertTrue(is_surely_in(way[0], way[-1], speed, patch, moment))
        self.assertGreater(met, 40)

    def test_touch_paper_and_when_can_agree(self):
        met = [0, 0]
        for way, speed, patch in self.cases(93, 500):
            looks = (way[0], way[-1], speed, patch)
            touch, told, can = can_touch(*looks), paper(*looks), when_can(*looks)
            self.assertEqual([touch is None, told is None], [can == (), can != ()])
            self.assertEqual([shows_can_touch(*looks, touch), shows_paper(*looks, told)], [True, True])
            if touch is not None:
                self.assertTrue(has(can, touch[1]))
                self.assertTrue(has(when_at(*looks[:3], touch[0]), touch[1]))
            met[touch is None] += 1
        self.assertGreater(min(met), 30)

    def test_leaving_and_surely_being_in_agree(self):
        met = [0, 0]
        for way, speed, patch in self.cases(94, 600):
            looks = (way[0], way[-1], speed, patch)
            left, surely = refused(can_leave, *looks), surely_in(*looks)
            whole = ((way[0][0], True, way[-1][0], True),)
            if left is not None and left[0] == "NotIn":
                self.assertNotEqual(surely, whole)
                continue
            # It can leave just if it wasn't surely in all the time.
            self.assertEqual(left is None, surely == whole)
            if left is not None:
                self.assertTrue(shows_can_leave(*looks, left))
                self.assertFalse(has(surely, left[1]))
            met[left is None] += 1
        self.assertGreater(min(met), 5)

    def test_rules_reasons_and_events_of_a_patch(self):
        for way, _, patch in self.cases(95, 40):
            rule, things = ("in", "a", region_of(patch)), (("a", way),)
            told = held(rule, things, WATCH)
            self.assertEqual(told, both(during(region_of(patch), way), ((WATCH[0], True, WATCH[1], True),)))
            for event in events((("r", rule),), things, WATCH):
                self.assertEqual(held_at(rule, things, WATCH, event[0]), event[3])
                self.assertEqual(reason(rule, things, WATCH, event[0]), ("so",) if event[3] else ("not",))


class Kept(unittest.TestCase):
    """Guarantee (g), by REPORTS in every sequence, at a Post and at a Bench."""

    def test_every_sequence(self):
        rows = [("van", ((0, 1), spot(0, 0))), ("van", ((10, 1), spot(10, 0))), ("van", ((5, 1), spot(5, 5))), ("cart", ((2, 1), spot(6, 0))), ("cart", ((8, 1), spot(6, 1)))]
        rules = (("in", read_rule("(in van (disc 5 0 16))")), ("both", read_rule("(since (near van cart 16) (lately 1/2 (in cart (half 0 1 0))))")))
        things = (("cart", tuple([row[1] for row in rows[3:]])), ("van", (rows[0][1], rows[2][1], rows[1][1])))
        right = events(rules, things, WATCH)
        self.assertGreater(len(right), 4)
        for order in itertools.permutations(rows):
            post, bench = Post(WATCH), Bench(WATCH)
            for name, (moment, place) in order:
                # What comes is wrong at first, and put right at once or later.
                n = post.put(name, (shifted(moment, (50, 1)), place))
                post.correct(n, (moment, place))
                bench.do(" ".join(["put", name, *[str(worth(value)) for value in (moment, *place)]]))
            for name, rule in rules:
                post.add(name, rule)
                bench.do("add " + name + " " + rule_text(rule))
            for told in (post, bench.post()):
                self.assertEqual([told.things, told.rules, told.events()], [things, rules, right])
                self.assertEqual([told.held(name) for name, _ in rules], [held(rule, things, WATCH) for _, rule in rules])

    def test_at_a_bench_with_deeds_that_are_undone(self):
        chance = random.Random(96)
        for _ in range(30):
            way, other = random_way(chance, 5), random_way(chance, 5)
            rule = random_rule(chance, 3, ["a", "b"], [random_leaf(chance, ["a", "b"]) for _ in range(3)], Fraction(1))
            bench = Bench(WATCH)
            lines = [" ".join(["put", name, *[str(worth(value)) for value in (report[0], *report[1])]]) for name, row in (("a", way), ("b", other)) for report in row]
            for line in chance.sample(lines, len(lines)):
                bench.do(line)
                if chance.random() < 0.4:
                    bench.undo()
                    bench.redo()
                if chance.random() < 0.4:
                    bench.tried(lambda given: (given.undo(), given.do("put c 1 1 1")))
            bench.do("add r " + rule_text(rule))
            self.assertEqual(bench.post().held("r"), held(rule, (("a", way), ("b", other)), WATCH))
            self.assertTrue(read_journal(journal(bench)) == bench)


class GreatNumbers(unittest.TestCase):
    """What was told, and what is made of it, may be handed in again."""

    def test_on_and_on(self):
        chance = random.Random(97)
        for _ in range(12):
            way, patch = random_way(chance, 4), random_patch(chance, 3)
            speed = speed_for(way, Fraction(1, 10 ** 9))
            looks = (way[0], (number(worth(way[-1][0]) + Fraction(1, 999999937)), way[-1][1]), speed, patch)
            can = when_can(*looks)
            for low, _, high, _ in can:
                moment = low if low == high else between(low, high)
                for _ in range(3):
                    moment = shifted(scaled(moment, (999999937, 999999929)), (1, 999999893))
                    self.assertEqual(read_moment(moment_text(moment)), moment)
                    self.assertIs(can_be_in(*looks, moment), has(can, moment))
            later = number(worth(between(next_look(way[0], speed, (patch,), (1, 999999937)), (10 ** 6, 1))) + Fraction(1, 10 ** 9))
            told = slipped(way[0], speed, (patch,), (1, 999999937), later)
            again = slipped(told[1][-1], speed, (patch,), (1, 7), number(worth(later) + 1000))
            self.assertTrue(shows_slipped(told[1][-1], speed, (patch,), (1, 7), number(worth(later) + 1000), again))
            self.assertEqual(stretches_text(read_stretches(stretches_text(during(region_of(patch), again[1])))), stretches_text(during(region_of(patch), again[1])))
            touch = can_touch(told[1][0], told[1][-1], speed, patch)
            self.assertTrue(shows_can_touch(told[1][0], told[1][-1], speed, patch, touch))
            for corner in told[1]:
                vectors = paper(corner, (number(worth(corner[0]) + Fraction(1, 10 ** 9)), corner[1]), (1, 10 ** 9), patch)
                if vectors is not None:
                    self.assertTrue(shows_paper(corner, (number(worth(corner[0]) + Fraction(1, 10 ** 9)), corner[1]), (1, 10 ** 9), patch, vectors))


class Story(unittest.TestCase):
    """A yard, a van that is seen now and then, and who keeps watch."""

    YARD = square_patch(3, 4, 2)

    def test_a_watch_from_the_first_report_to_the_journal(self):
        yard = region_of(self.YARD)
        self.assertEqual(region_text(yard), "(and (half 0 -1 -4) (half 1 0 5) (half 0 1 6) (half -1 0 -3))")
        self.assertEqual(sight(yard, (2, 6), (3, 7)), ".....\n.###.\n.###.\n.###.\n.....")
        desk = Desk("watch 0 20\ndeeds")
        for line in ("put van 0 0 5", "put van 8 8 5", "add yard (in van " + region_text(yard) + ")", "add stay (long 1 (in van " + region_text(yard) + "))"):
            self.assertEqual(desk.say(line), "done")
        self.assertEqual(desk.say("events"), "yard begins in 3; stay begins in 4; yard ends in 5; stay ends in 5")
        # It came late that it went by the south: so it never was in the yard.
        self.assertEqual([desk.say("put van 4 4 1"), desk.say("held yard"), desk.say("holding 4")], ["done", "none", "none"])
        self.assertEqual([desk.say("undo"), desk.say("holding 4"), desk.say("next 4")], ["done", "yard stay", "yard ends in 5"])
        post = desk.bench.post()
        told = post.held("yard")
        self.assertEqual([strip(told, (0, 1), (1, 1), 8), post.work], ["...##+..", 1])
        way = post.things[0][1]
        self.assertEqual([told, during(yard, way)], [(((3, 1), True, (5, 1), True),)] * 2)
        self.assertEqual(tally(post.rules, post.things, post.watch, (3, 1), (5, 1)), (("yard", 0, 1), ("stay", 1, 1)))
        self.assertTrue(shows_reason(post.rules[1][1], post.things, post.watch, (9, 2), ("so", told[0])))
        self.assertEqual(reason(post.rules[1][1], post.things, post.watch, (9, 2)), ("so", told[0]))
        self.assertEqual([event_text(read_event(text)) for text in desk.say("events").split("; ")], desk.say("events").split("; "))

        # Nothing but its two reports was known: with a speed of 1 it went straight, with more it may have missed the yard.
        one, other = way[0], way[-1]
        self.assertEqual([surely_in(one, other, (1, 1), self.YARD), when_can(one, other, (1, 1), self.YARD)], [told, told])
        self.assertEqual(surely_in(one, other, (2, 1), self.YARD), ())
        self.assertEqual(can_touch(one, other, (1, 1), square_patch(3, 6, 1)), None)
        self.assertTrue(shows_paper(one, other, (1, 1), square_patch(3, 6, 1), paper(one, other, (1, 1), square_patch(3, 6, 1))))
        self.assertEqual(can_leave(one, other, (1, 1), square_patch(-1, -1, 10)), None)

        # To see each stay of 2 in the yard one looks at 5 and at 7; whoever looks a little later may miss one.
        self.assertEqual(plan(way, (1, 1), (self.YARD,), (2, 1), (1, 1)), ((0, 1), (5, 1), (7, 1)))
        due = next_look(one, (1, 1), (self.YARD,), (2, 1))
        self.assertEqual(due, (5, 1))
        later = number(5 + Fraction(1, 2 ** 30))
        n, slip = slipped(one, (1, 1), (self.YARD,), (2, 1), later)
        self.assertEqual([n, shows_slipped(one, (1, 1), (self.YARD,), (2, 1), later, (n, slip))], [0, True])
        bench = Bench(((0, 1), (20, 1)))
        for moment, (x, y) in slip:
            bench.do("put van " + " ".join([moment_text(value) for value in (moment, x, y)]))
        bench.do("add stay (long 2 (in van " + region_text(yard) + "))")
        self.assertEqual(len(bench.post().events()), 2)

        # What if it was seen at 6, in the south? Nobody keeps that.
        said = desk.bench.tried(lambda given: (given.do("put van 6 3 1"), desk.say("held yard")))
        self.assertEqual(said, (None, "none"))
        self.assertEqual([desk.say("held yard"), desk.bench.deeds, len(desk.bench)], ["[3, 5]", 4, 2])
        self.assertEqual(said[1], read_journal(journal(desk.bench) + "\nput van 6 3 1").tried(lambda given: stretches_text(given.post().held("yard"))) or "none")
        self.assertEqual(desk.say("redo"), "done")
        self.assertEqual([desk.say("held yard"), journal(desk.bench).split("\n")[-1]], ["none", "put van 4 4 1"])

    def test_all_moments_in_one_row(self):
        things = (("van", read_way("0 0 0 ; 10 10 0")),)
        rules = tuple([(f"r{n}", ("in", "van", ("disc", spot(5, 0), (n, 1)))) for n in range(1, 9)])
        told = events(rules, things, WATCH)
        row = [event[0] for event in told]
        self.assertEqual(tuple(sorted(set(row), key=as_float)), ascending(tuple(row)))
        moment, seen = (-1, 1), []
        while next_event(rules, things, WATCH, moment) is not None:
            moment = next_event(rules, things, WATCH, moment)[0]
            seen.append(moment)
            self.assertEqual(len(holding(rules, things, WATCH, moment)), len([1 for _, rule in rules if held_at(rule, things, WATCH, moment)]))
        self.assertEqual(tuple(seen), ascending(tuple(row)))

    def test_errors_are_caught_as_one_kind(self):
        for call in (lambda: Desk("").say("x"), lambda: Bench(None), lambda: Post(WATCH).take(0), lambda: plan(None, None, None, None, None), lambda: strip((), None, None, None),
                     lambda: can_leave(None, None, None, None), lambda: read_region("x"), lambda: part(read_way("0 0 0 ; 1 1 1"), (0, 1), (2, 1))):
            self.assertRaises(WatchError, call)
            self.assertRaises(ValueError, call)


if __name__ == "__main__":
    unittest.main()
