"""Point 7: WAYS, where things are on them, when they are in REGIONS, and when they are near."""
import random
import unittest
from fractions import Fraction

from crossingstold.moments import shifted
from crossingstold.regions import is_in, read_region
from crossingstold.stretches import both, has, joined, read_stretches, stretches_text
from crossingstold.ways import at, closest, during, is_in_at, led_on, near, part, read_way, speeds, way_text
from tests.helpers import NO_FRACTIONS, inside, number, order_of, random_region, refused, shown_wrong, spot, worth
from tests.model import Model, random_way

BENT = read_way("0 0 0 ; 4 8 0 ; 6 8 3")
WAITS = read_way("0 0 0 ; 2 4 0 ; 5 4 0 ; 7 0 0")
HIGH, LOW = (1, 0, -2, 1), (1, 0, -2, -1)


def during_text(region, way):
    """The text of what during tells of two texts."""
    return stretches_text(during(read_region(region), read_way(way)))


def near_text(one, other, square):
    """The text of what near tells of two texts, both ways round."""
    told = {stretches_text(near(*[read_way(way) for way in ways], square)) for ways in ((one, other), (other, one))}
    assert len(told) == 1, told
    return told.pop()


class At(unittest.TestCase):
    def test_at_reports_between_them_and_at_the_ends(self):
        for moment, told in (((0, 1), spot(0, 0)), ((4, 1), spot(8, 0)), ((6, 1), spot(8, 3)), ((1, 1), spot(2, 0)),
                             ((5, 1), spot(8, Fraction(3, 2))), ((1, 3), spot(Fraction(2, 3), 0)),
                             ((4000001, 1000000), spot(8, Fraction(3, 2000000)))):
            self.assertEqual(at(BENT, moment), told)
        for moment in ((2, 1), (3, 1), (7, 2), (5, 1)):
            self.assertEqual(at(WAITS, moment), spot(4, 0))
        self.assertEqual(at(read_way("-1/3 1/2 -5 ; 1/7 -2/3 4"), (0, 1)), spot(Fraction(-19, 60), Fraction(13, 10)))

    def test_beyond_the_span(self):
        for moment in ((-1, 1), (-1, 1000000), (6000001, 1000000), (7, 1)):
            self.assertEqual(refused(at, BENT, moment), ("NotThen", moment))
            self.assertEqual(refused(is_in_at, ("half", 1, 0, 9), BENT, moment), ("NotThen", moment))

    def test_a_root_is_no_fraction(self):
        for wrong in NO_FRACTIONS + [HIGH, LOW]:
            self.assertEqual(refused(at, BENT, wrong), ("BadFraction", wrong))

    def test_many(self):
        chance = random.Random(1)
        for _ in range(150):
            way = random_way(chance, 12)
            for (low, one), (high, other) in zip(way, way[1:]):
                gone = Fraction(chance.randint(0, 7), 7)
                moment = worth(low) + gone * (worth(high) - worth(low))
                told = [worth(p) + gone * (worth(q) - worth(p)) for p, q in zip(one, other)]
                self.assertEqual(at(way, number(moment)), spot(*told))


class IsInAt(unittest.TestCase):
    def test_roots_and_fractions_on_rims(self):
        five, four, half = read_region("(disc 4 0 5)"), read_region("(disc 4 0 4)"), ("half", 1, 0, 6)
        low, high = (4, -16, 11, -1), (4, -16, 11, 1)
        for region, moment, told in (
                (five, low, True), (five, high, True), (four, low, False), (four, high, False), (four, (1, 1), True),
                (four, (3, 1), True), (four, (2, 1), True), (four, (0, 1), False), (half, (3, 1), True), (half, high, False),
                (half, low, True), (half, (3000001, 1000000), False), (("not", five), low, False), (("not", five), high, False),
                (("not", four), high, True), (("and", five, ("not", four)), low, True), (("or", four, ("not", five)), low, False),
                (five, (1, -4, 1, -1), False), (five, (1, -4, 2, -1), False), (five, (1, -3, 1, 1), True),
                (five, shifted(low, (-1, 10 ** 9)), False), (five, shifted(low, (1, 10 ** 9)), True),
                (five, shifted(high, (1, 10 ** 9)), False), (five, shifted(high, (-1, 10 ** 9)), True)):
            self.assertIs(is_in_at(region, BENT, moment), told, (region, moment))

    def test_at_reports(self):
        for text, tells in (("(half 0 1 0)", [True, True, False]), ("(half 0 -1 -3)", [False, False, True]),
                            ("(disc 8 3 9)", [False, True, True]), ("(disc 0 0 0)", [True, False, False])):
            for moment, told in zip(((0, 1), (4, 1), (6, 1)), tells):
                self.assertIs(is_in_at(read_region(text), BENT, moment), told)

    def test_beyond_the_span(self):
        for moment in (LOW, (1, 0, -37, 1), (1, 12, 34, 1), (7, 1), (-1, 2)):
            self.assertEqual(refused(is_in_at, ("half", 1, 0, 9), BENT, moment), ("NotThen", moment))
        self.assertIs(is_in_at(("half", 1, 0, 9), BENT, (1, 0, -35, 1)), True)

    def test_many(self):
        chance = random.Random(2)
        for _ in range(80):
            way, region = random_way(chance, 6), random_region(chance, 3, 5)
            told = during(region, way)
            for n in range(-3, 15):
                moment = number(Fraction(n, 2))
                if order_of(way[0][0], moment) <= 0 <= order_of(way[-1][0], moment):
                    self.assertIs(is_in_at(region, way, moment), is_in(region, at(way, moment)))
                    self.assertIs(is_in_at(region, way, moment), has(told, moment))
            for low, low_in, high, high_in in told:
                self.assertEqual([is_in_at(region, way, low), is_in_at(region, way, high)], [low_in, high_in])


class During(unittest.TestCase):
    def test_along_a_border(self):
        for region, way, told in (
                ("(half 0 1 0)", "0 0 0 ; 4 8 0 ; 6 8 3", "[0, 4]"), ("(not (half 0 1 0))", "0 0 0 ; 4 8 0 ; 6 8 3", "(4, 6]"),
                ("(half 0 1 0)", "0 0 1 ; 1 1 0 ; 2 3 0 ; 3 3 1", "[1, 2]"),
                ("(not (half 0 1 0))", "0 0 1 ; 1 1 0 ; 2 3 0 ; 3 3 1", "[0, 1); (2, 3]"),
                ("(not (half 0 -1 0))", "0 0 1 ; 1 1 0 ; 2 3 0 ; 3 3 1", ""),
                ("(and (half 0 1 0) (half 0 -1 0))", "0 0 -1 ; 1 0 0 ; 5 1 0 ; 6 1 -1", "[1, 5]"),
                ("(half 2 -3 0)", "0 0 0 ; 5 3 2", "[0, 5]"), ("(half 2 -3 -1)", "0 0 0 ; 5 3 2", ""),
                ("(not (half 2 -3 -1))", "0 0 0 ; 5 3 2", "[0, 5]")):
            self.assertEqual(during_text(region, way), told, (region, way))

    def test_what_is_just_touched(self):
        for region, way, told in (
                ("(disc 0 2 4)", "-3 -3 0 ; 3 3 0", "[0, 0]"), ("(not (disc 0 2 4))", "-3 -3 0 ; 3 3 0", "[-3, 0); (0, 3]"),
                ("(disc 0 2 399/100)", "-3 -3 0 ; 3 3 0", ""),
                ("(disc 0 2 401/100)", "-3 -3 0 ; 3 3 0", "[-1/10, 1/10]"), ("(disc 0 0 2)", "0 0 2 ; 2 2 0", "[1, 1]"),
                ("(disc 1 0 0)", "0 0 0 ; 2 2 0", "[1, 1]"), ("(disc 1 1 0)", "0 0 0 ; 2 2 0", ""),
                ("(and (half 1 0 0) (half 0 1 0))", "-1 -1 1 ; 1 1 -1", "[0, 0]"),
                ("(or (half 1 0 0) (half 0 1 0))", "-1 -1 1 ; 1 1 -1", "[-1, 1]"),
                ("(not (and (half 1 0 0) (half 0 1 0)))", "-1 -1 1 ; 1 1 -1", "[-1, 0); (0, 1]"),
                ("(and (half 1 0 0) (half 0 1 0))", "-1 -2 2 ; 0 0 0 ; 1 2 2", "[0, 0]"),
                ("(and (half 1 0 0) (not (half 1 0 0)))", "-1 -2 2 ; 0 0 0 ; 1 2 2", ""),
                ("(half 0 1 0)", "0 0 2 ; 1 1 0 ; 2 2 2 ; 3 3 0 ; 4 4 1", "[1, 1]; [3, 3]")):
            self.assertEqual(during_text(region, way), told, (region, way))

    def test_waiting_and_coming_back(self):
        for region, way, told in (
                ("(half 1 0 3)", "0 0 0 ; 2 4 0 ; 5 4 0 ; 7 0 0", "[0, 3/2]; [11/2, 7]"),
                ("(half -1 0 -4)", "0 0 0 ; 2 4 0 ; 5 4 0 ; 7 0 0", "[2, 5]"),
                ("(disc 4 0 1)", "0 0 0 ; 2 4 0 ; 5 4 0 ; 7 0 0", "[3/2, 11/2]"),
                ("(disc 5 0 1)", "0 0 0 ; 2 4 0 ; 5 4 0 ; 7 0 0", "[2, 5]"),
                ("(disc 5 0 99/100)", "0 0 0 ; 2 4 0 ; 5 4 0 ; 7 0 0", ""),
                ("(not (disc 5 0 1))", "0 0 0 ; 2 4 0 ; 5 4 0 ; 7 0 0", "[0, 2); (5, 7]"),
                ("(disc 0 0 2)", "0 0 0 ; 2 2 0 ; 4 0 0",
                 "[0, root 1 0 -2 high]; [root 1 -8 14 low, 4]"),
                ("(not (disc 0 0 2))", "0 0 0 ; 2 2 0 ; 4 0 0", "(root 1 0 -2 high, root 1 -8 14 low)"),
                ("(half 1 0 0)", "0 0 0 ; 1 0 0 ; 2 0 0", "[0, 2]"), ("(half 1 0 -1)", "0 0 0 ; 1 0 0", ""),
                ("(disc 0 0 0)", "0 0 0 ; 9 0 0", "[0, 9]")):
            self.assertEqual(during_text(region, way), told, (region, way))

    def test_beginning_and_ending_on_a_rim(self):
        for region, way, told in (
                ("(disc 0 0 4)", "0 2 0 ; 1 3 0", "[0, 0]"), ("(disc 0 0 4)", "0 3 0 ; 1 2 0", "[1, 1]"),
                ("(disc 0 0 4)", "0 2 0 ; 4 -2 0", "[0, 4]"), ("(not (disc 0 0 4))", "0 2 0 ; 4 -2 0", ""),
                ("(not (disc 0 0 4))", "0 2 0 ; 1 3 0", "(0, 1]"), ("(not (disc 0 0 4))", "0 3 0 ; 1 2 0", "[0, 1)"),
                ("(half 1 0 0)", "0 0 0 ; 1 1 0", "[0, 0]"), ("(half 1 0 0)", "0 1 0 ; 1 0 0", "[1, 1]"),
                ("(not (half 1 0 0))", "0 1 0 ; 1 0 0", "[0, 1)"), ("(disc 0 0 4)", "0 2 0 ; 4 2 3 ; 8 2 0", "[0, 0]; [8, 8]"),
                ("(disc 0 0 4)", "0 5 0 ; 3 2 0 ; 6 5 0", "[3, 3]"), ("(half 1 0 2)", "0 5 0 ; 3 2 0 ; 6 5 0", "[3, 3]")):
            self.assertEqual(during_text(region, way), told, (region, way))

    def test_ends_that_are_roots(self):
        self.assertEqual(during_text("(disc 4 0 5)", "0 0 0 ; 4 8 0 ; 6 8 3"), "[root 4 -16 11 low, root 4 -16 11 high]")
        self.assertEqual(during_text("(disc 8 0 2)", "0 0 0 ; 4 8 0 ; 6 8 3"),
                         "[root 2 -16 31 low, root 9 -72 136 high]")
        self.assertEqual(during_text("(and (disc 0 0 2) (not (disc 0 0 1)))", "-3 -3 0 ; 3 3 0"),
                         "[root 1 0 -2 low, -1); (1, root 1 0 -2 high]")

    def test_a_region_and_its_not_part_the_span(self):
        chance = random.Random(3)
        for _ in range(120):
            way, region = random_way(chance, 6), random_region(chance, 4, 6)
            one, other = during(region, way), during(("not", region), way)
            self.assertEqual(both(one, other), ())
            self.assertEqual(joined(one, other), ((way[0][0], True, way[-1][0], True),))
            self.assertEqual(during(("and", region), way), one)
            self.assertEqual(during(("or", region), way), one)

    def test_many_moment_by_moment(self):
        chance = random.Random(4)
        for _ in range(120):
            way, region = random_way(chance, 6), random_region(chance, 3, 6)
            rule = ("in", "a", region)
            watch = ((-1, 1), (7, 1))
            self.assertEqual(during(region, way), Model([rule], (("a", way),), watch, Fraction(8)).told(rule), (region, way))

    def test_places_between_ends(self):
        chance = random.Random(5)
        for _ in range(80):
            way, region = random_way(chance, 4), random_region(chance, 4, 8)
            told = during(region, way)
            low, high = worth(way[0][0]), worth(way[-1][0])
            for n in range(30):
                moment = low + (high - low) * Fraction(n, 29)
                x, y = [worth(p) for p in at(way, number(moment))]
                self.assertIs(has(told, number(moment)), inside(region, x, y))


class Near(unittest.TestCase):
    def test_meeting(self):
        one, other = "0 0 0 ; 4 8 0", "0 8 0 ; 4 0 0"
        for square, told in (((0, 1), "[2, 2]"), ((4, 1), "[3/2, 5/2]"), ((2, 1), "[root 8 -32 31 low, root 8 -32 31 high]"),
                             ((64, 1), "[0, 4]"), ((63, 1), "[root 16 -64 1 low, root 16 -64 1 high]"), ((100, 1), "[0, 4]")):
            self.assertEqual(near_text(one, other, square), told)

    def test_side_by_side(self):
        one, other = "0 0 0 ; 6 6 0", "0 0 3 ; 6 6 3"
        for square, told in (((9, 1), "[0, 6]"), ((899999999, 100000000), ""), ((10, 1), "[0, 6]"), ((0, 1), "")):
            self.assertEqual(near_text(one, other, square), told)
        # Nearer on the one leg, side by side at just this distance on the other one.
        self.assertEqual(near_text("0 0 0 ; 6 6 0", "0 0 2 ; 2 2 3 ; 4 4 3 ; 6 6 4", (9, 1)), "[0, 4]")

    def test_one_waits_and_both_wait(self):
        self.assertEqual(near_text("0 5 1 ; 9 5 1", "0 0 1 ; 10 10 1", (4, 1)), "[3, 7]")
        self.assertEqual(near_text("0 5 1 ; 4 5 1 ; 9 9 1", "0 0 1 ; 5 5 1 ; 9 5 1", (1, 1)), "[4, 21/4]")
        self.assertEqual(near_text("0 5 1 ; 9 5 1", "1 6 2 ; 3 6 2", (2, 1)), "[1, 3]")
        self.assertEqual(near_text("0 5 1 ; 9 5 1", "1 6 2 ; 3 6 2", (1, 1)), "")

    def test_spans_with_one_moment_in_common_or_none(self):
        for one, other, square, told in (
                ("0 0 0 ; 4 4 0", "4 5 0 ; 6 9 0", (1, 1), "[4, 4]"), ("0 0 0 ; 4 4 0", "4 5 0 ; 6 9 0", (99, 100), ""),
                ("0 0 0 ; 4 4 0", "4 4 0 ; 6 9 0", (0, 1), "[4, 4]"), ("0 0 0 ; 4 4 0", "5 4 0 ; 6 4 0", (100, 1), ""),
                ("0 0 0 ; 4 4 0", "4 9 0 ; 6 4 0", (16, 1), ""), ("0 0 0 ; 4 0 0", "3 0 0 ; 6 0 0", (0, 1), "[3, 4]")):
            self.assertEqual(near_text(one, other, square), told)

    def test_the_very_least_square(self):
        one, other = read_way("0 0 0 ; 5 5 3 ; 9 1 7"), read_way("1 4 -2 ; 6 0 5 ; 8 8 8")
        square, moment = closest(one, other)
        self.assertEqual(near(one, other, square), ((moment, True, moment, True),))
        self.assertEqual(near(one, other, number(worth(square) - Fraction(1, 10 ** 9))), ())
        low, _, high, _ = near(one, other, number(worth(square) + Fraction(1, 10 ** 9)))[0]
        self.assertEqual([order_of(low, moment), order_of(moment, high)], [-1, -1])

    def test_with_itself(self):
        for square in ((0, 1), (5, 1)):
            self.assertEqual(near(BENT, BENT, square), (((0, 1), True, (6, 1), True),))

    def test_apart_and_near_again(self):
        self.assertEqual(near_text("0 0 0 ; 8 0 0", "0 0 0 ; 2 2 0 ; 4 0 0 ; 6 2 0 ; 8 0 0", (1, 1)), "[0, 1]; [3, 5]; [7, 8]")
        self.assertEqual(near_text("0 0 0 ; 8 0 0", "0 0 0 ; 2 2 0 ; 4 0 0 ; 6 2 0 ; 8 0 0", (0, 1)), "[0, 0]; [4, 4]; [8, 8]")
        self.assertEqual(near_text("0 0 0 ; 8 0 0", "0 0 0 ; 2 2 0 ; 4 0 0 ; 6 2 0 ; 8 0 0", (4, 1)), "[0, 8]")

    def test_many_moment_by_moment(self):
        chance = random.Random(6)
        for _ in range(120):
            one, other = random_way(chance, 6), random_way(chance, 6)
            rule = ("near", "a", "b", number(chance.randint(0, 20), chance.choice([1, 2])))
            model = Model([rule], (("a", one), ("b", other)), ((-1, 1), (7, 1)), Fraction(8))
            self.assertEqual(near(one, other, rule[3]), model.told(rule), (one, other, rule))
            self.assertEqual(near(other, one, rule[3]), near(one, other, rule[3]))


class Closest(unittest.TestCase):
    def test_plain_ones(self):
        for one, other, told in (
                ("0 0 0 ; 4 8 0", "0 8 0 ; 4 0 0", ((0, 1), (2, 1))),
                # On the way, at an end, half way between two moments.
                ("0 0 0 ; 10 10 0", "0 5 3 ; 10 5 3", ((9, 1), (5, 1))), ("0 0 0 ; 4 4 0", "0 5 3 ; 10 5 3", ((10, 1), (4, 1))),
                ("0 0 0 ; 4 4 0", "0 -1 3 ; 10 -1 3", ((10, 1), (0, 1))),
                ("0 0 0 ; 3 1 0", "0 0 1 ; 3 0 2", ((1, 1), (0, 1))), ("0 0 0 ; 3 3 0", "0 1 1 ; 3 1 2", ((8, 5), (3, 5))),
                # One moment in common, none.
                ("0 0 0 ; 4 4 0", "4 5 0 ; 6 9 0", ((1, 1), (4, 1))), ("0 0 0 ; 4 4 0", "5 4 0 ; 6 9 0", None),
                ("5 4 0 ; 6 9 0", "0 0 0 ; 4 4 0", None), ("0 0 0 ; 4 4 0", "4000001/1000000 4 0 ; 6 9 0", None)):
            self.assertEqual(closest(read_way(one), read_way(other)), told, (one, other))

    def test_the_first_of_several_moments(self):
        for one, other, told in (
                # Side by side, all along and on later legs, waiting together, meeting again and again.
                ("0 0 0 ; 6 6 0", "0 0 3 ; 6 6 3", ((9, 1), (0, 1))), ("-2 0 0 ; 6 6 0", "1 9 3 ; 2 3 3 ; 6 6 3", ((9, 1), (2, 1))),
                ("0 5 1 ; 9 5 1", "1 6 2 ; 3 6 2", ((2, 1), (1, 1))),
                ("0 0 0 ; 8 0 0", "0 5 0 ; 2 0 0 ; 4 7 0 ; 6 0 0 ; 8 1 0", ((0, 1), (2, 1))),
                ("0 0 0 ; 8 0 0", "0 5 0 ; 2 1 0 ; 4 7 0 ; 6 -1 0 ; 8 -1 0", ((0, 1), (23, 4))),
                ("0 0 0 ; 8 0 0", "0 5 0 ; 2 1 0 ; 4 7 0 ; 6 1 0 ; 8 1 0", ((1, 1), (2, 1))),
                ("0 0 0 ; 8 8 0", "1 1 1 ; 3 3 1 ; 4 4 3 ; 5 5 1 ; 6 6 1", ((1, 1), (1, 1)))):
            self.assertEqual(closest(read_way(one), read_way(other)), told, (one, other))
            self.assertEqual(closest(read_way(other), read_way(one)), told, (one, other))

    def test_with_itself(self):
        self.assertEqual(closest(BENT, BENT), ((0, 1), (0, 1)))

    def test_many(self):
        chance = random.Random(7)
        many = 0
        for _ in range(200):
            one, other = random_way(chance, 6), random_way(chance, 6)
            told = closest(one, other)
            self.assertEqual(closest(other, one), told)
            together = near(one, other, (10 ** 6, 1))
            self.assertEqual(told is None, together == ())
            if told is not None:
                square, moment = told
                x, y = [worth(p) - worth(q) for p, q in zip(at(one, moment), at(other, moment))]
                self.assertEqual(number(x * x + y * y), square)
                self.assertEqual(near(one, other, square)[0][:2], (moment, True))
                if square[0] > 0:
                    self.assertEqual(near(one, other, number(worth(square) * Fraction(999999, 1000000))), ())
                many += 1
        self.assertGreater(many, 100)


class Speeds(unittest.TestCase):
    def test_plain_ones(self):
        for text, told in (
                ("0 0 0 ; 4 8 0 ; 6 8 3", ((4, 1), (9, 4))), ("0 0 0 ; 2 4 0 ; 5 4 0 ; 7 0 0", ((4, 1), (0, 1), (4, 1))),
                ("0 1 1 ; 1 1 1", ((0, 1),)), ("0 0 0 ; 5 3 4", ((1, 1),)), ("0 0 0 ; 1 1 1", ((2, 1),)),
                ("-1/2 0 0 ; 0 1/3 -1/2", ((13, 9),)), ("1/3 1/7 0 ; 1/2 -1/7 2", ((7200, 49),))):
            self.assertEqual(speeds(read_way(text)), told)
        many = tuple([((n, 1), spot(n * n, 0)) for n in range(12)])
        self.assertEqual(speeds(many), tuple([((2 * n + 1) ** 2, 1) for n in range(11)]))


class Part(unittest.TestCase):
    def test_plain_ones(self):
        for low, high, told in (
                ((0, 1), (6, 1), "0 0 0 ; 4 8 0 ; 6 8 3"), ((0, 1), (4, 1), "0 0 0 ; 4 8 0"), ((4, 1), (6, 1), "4 8 0 ; 6 8 3"),
                ((1, 1), (5, 1), "1 2 0 ; 4 8 0 ; 5 8 3/2"), ((1, 1), (2, 1), "1 2 0 ; 2 4 0"),
                ((9, 2), (5, 1), "9/2 8 3/4 ; 5 8 3/2"), ((1, 3), (4, 1), "1/3 2/3 0 ; 4 8 0"), ((4, 1), (5, 1), "4 8 0 ; 5 8 3/2"),
                ((0, 1), (1, 1), "0 0 0 ; 1 2 0"), ((5, 1), (6, 1), "5 8 3/2 ; 6 8 3"), ((0, 1), (5, 1), "0 0 0 ; 4 8 0 ; 5 8 3/2")):
            self.assertEqual(way_text(part(BENT, low, high)), told)

    def test_of_the_most_reports(self):
        many = tuple([((n, 1), spot(n * n, n)) for n in range(12)])
        self.assertEqual(part(many, (0, 1), (11, 1)), many)
        told = part(many, (1, 2), (21, 2))
        self.assertEqual([len(told), told[1:-1], told[0]], [12, many[1:-1], ((1, 2), (((1, 2), (1, 2))))])

    def test_bad_spans(self):
        for low, high in (((0, 1), (0, 1)), ((4, 1), (4, 1)), ((5, 1), (1, 1)), ((6, 1), (0, 1)), ((-1, 1000000), (6, 1)),
                          ((0, 1), (6000001, 1000000)), ((-2, 1), (-1, 1)), ((7, 1), (8, 1)), (HIGH, (2, 1)), ((1, 1), HIGH),
                          ((1, 1), None), (None, None), ((2, 2), (3, 1)), ((1, 1), [3, 1]), (1, 3), ("1", "3"), (True, (1, 1))):
            self.assertEqual(refused(part, BENT, low, high), ("BadSpan", (low, high)))
            self.assertEqual(refused(part, BENT[:1], low, high), ("BadWay", BENT[:1]))
        for wrong in NO_FRACTIONS:
            self.assertEqual(refused(part, BENT, wrong, (5, 1)), ("BadSpan", (wrong, (5, 1))))
            self.assertEqual(refused(part, BENT, (1, 1), wrong), ("BadSpan", ((1, 1), wrong)))

    def test_parts_are_so_as_the_way_is(self):
        chance = random.Random(8)
        for _ in range(60):
            way = random_way(chance, 12)
            low, high = sorted([chance.uniform(0, 1) for _ in range(2)])
            begin, end = worth(way[0][0]), worth(way[-1][0])
            low, high = [begin + (end - begin) * Fraction(p).limit_denominator(50) for p in (low, high)]
            if low < high:
                told = part(way, number(low), number(high))
                for n in range(7):
                    moment = number(low + (high - low) * Fraction(n, 6))
                    self.assertEqual(at(told, moment), at(way, moment))
                inner = tuple([report for report in way if low < worth(report[0]) < high])
                self.assertEqual(told[1:-1], inner)


class LedOn(unittest.TestCase):
    def test_plain_ones(self):
        self.assertEqual(way_text(led_on(part(BENT, (0, 1), (2, 1)), part(BENT, (2, 1), (6, 1)))), "0 0 0 ; 2 4 0 ; 4 8 0 ; 6 8 3")
        self.assertEqual(led_on(BENT[:2], BENT[1:]), BENT)

    def test_apart(self):
        one = read_way("0 0 0 ; 4 8 0")
        for text in ("4 8 1 ; 6 8 3", "5 8 0 ; 6 8 3", "0 0 0 ; 4 8 0", "3 8 0 ; 4 8 0", "4 7 0 ; 6 8 3", "-4 0 0 ; 0 0 0"):
            self.assertEqual(refused(led_on, one, read_way(text)), ("Apart", None), text)

    def test_twelve_and_thirteen_together(self):
        many = tuple([((n, 1), spot(n * n, n)) for n in range(24)])
        for first, last in ((1, 11), (6, 11), (10, 11)):
            self.assertEqual(led_on(many[:first + 1], many[first:last + 1]), many[:12])
        for first, last in ((1, 12), (6, 12), (11, 12), (11, 22)):
            self.assertEqual(refused(led_on, many[:first + 1], many[first:last + 1]), ("TooMany", last + 1))
        self.assertEqual(refused(led_on, many[:12], many[12:]), ("Apart", None))


class Texts(unittest.TestCase):
    def test_there_and_back(self):
        for text, told in (("0 0 0 ; 4 8 0 ; 6 8 3", (((0, 1), spot(0, 0)), ((4, 1), spot(8, 0)), ((6, 1), spot(8, 3)))),
                           ("-1/2 -3 1/3 ; 0 5/2 -7/4", (((-1, 2), ((-3, 1), (1, 3))), ((0, 1), ((5, 2), (-7, 4)))))):
            self.assertEqual(read_way(text), told)
            self.assertEqual(way_text(told), text)
        chance = random.Random(9)
        for _ in range(100):
            way = random_way(chance, 12)
            self.assertEqual(read_way(way_text(way)), way)
            self.assertEqual(len(way_text(way).split(" ")), 4 * len(way) - 1)
        great = (((0, 1), spot(10 ** 5000, 0)), ((10 ** 5000 + 1, 10 ** 5000), spot(0, 1)))
        self.assertEqual(read_way(way_text(great)), great)

    def test_nearly_texts(self):
        for text in (
                "", " ", ";", " ; ", "0 0 0", "0 0 0 ; ", " ; 0 0 0", "0 0 0 ; 4 8", "0 0 ; 4 8 0", "0 0 0 ; 4 8 0 1", "0 0 0 0 ; 4 8 0",
                "0 0 0;4 8 0", "0 0 0 ;4 8 0", "0 0 0; 4 8 0", "0 0 0  ; 4 8 0", "0 0 0 ;  4 8 0", " 0 0 0 ; 4 8 0",
                "0 0 0 ; 4 8 0 ", "0 0 0 ; 4 8 0\n", "0 0 0\n4 8 0", "0 0 0 ; 4  8 0", "0 0 0 ; ; 4 8 0", "0 0 0 ;; 4 8 0",
                "0 0 0 ; 4 8 0 ;", "0 0 0 ; 4 8 0 ; ", "0 0 0 ; 0 8 0", "4 0 0 ; 0 8 0", "0 0 0 ; 4 8 0 ; 4 8 0", "0 0 0 ; 4 8 0 ; 3 0 0",
                "0 0 0 ; 4 8 2/2", "0 0 0 ; 4 2/4 0", "0 0 0 ; 4 8 0/1", "0 0 0 ; 4/1 8 0", "+0 0 0 ; 4 8 0", "-0 0 0 ; 4 8 0",
                "0 0 0 ; 04 8 0", "0 0 0 ; 4 8 1.5", "0 0 0 ; 4 8 1/0", "0 0 0 ; 4 8 1/-2", "0 0 0 ; x 8 0", "0, 0, 0 ; 4, 8, 0",
                "(0 0 0 ; 4 8 0)", "0 (0 0) ; 4 (8 0)", "0 0 0 ; root 1 0 -2 high 8 0", "0 0 0 , 4 8 0", "0 0 0 : 4 8 0",
                "0 0 0 4 8 0", " ; ".join([f"{n} 0 0" for n in range(13)]), " ; ".join([f"{n} 0 0" for n in range(24)])):
            shown_wrong(self, read_way, text, name="BadWay")
        self.assertEqual(len(read_way(" ; ".join([f"{n} 0 0" for n in range(12)]))), 12)


class Bounds(unittest.TestCase):
    def test_two_to_twelve_reports(self):
        row = tuple([((n, 1), spot(0, n)) for n in range(14)])
        calls = [(way_text, ()), (speeds, ()), (at, ((1, 1),)), (part, ((0, 1), (1, 1))), (near, (BENT, (1, 1))),
                 (closest, (BENT,)), (led_on, (row[1:3],))]
        for many in (2, 3, 11, 12):
            for function, others in calls[:-1]:
                function(row[:many], *others)
        for many in (0, 1, 13, 14):
            for function, others in calls:
                shown_wrong(self, function, row[:many], *others, name="BadWay")

    def test_moments_ascend_each_once(self):
        reports = [((n, 1), spot(n, n)) for n in range(4)]
        for order in ((1, 0), (0, 0), (0, 1, 1), (0, 2, 1), (0, 1, 2, 3, 2), (3, 2, 1), (0, 1, 2, 2)):
            shown_wrong(self, way_text, tuple([reports[n] for n in order]), name="BadWay")
        shown_wrong(self, way_text, (((1, 2), spot(0, 0)), ((1, 3), spot(0, 0))), name="BadWay")
        shown_wrong(self, way_text, (((1, 2), spot(0, 0)), ((1, 2), spot(1, 0))), name="BadWay")
        self.assertEqual(way_text((((1, 3), spot(0, 0)), ((1, 2), spot(0, 0)))), "1/3 0 0 ; 1/2 0 0")


class Great(unittest.TestCase):
    def test_what_was_told_is_taken_again(self):
        way, region = BENT, read_region("(disc 4 1/3 5)")
        for _ in range(8):
            low, high = worth(way[0][0]), worth(way[-1][0])
            way = part(way, number(low + (high - low) / 999999937), number(high - (high - low) / 999999893))
            told = during(region, way)
            self.assertEqual(read_stretches(stretches_text(told)), told)
            for low, low_in, high, high_in in told:
                self.assertEqual([is_in_at(region, way, low), is_in_at(region, way, high)], [low_in, high_in])
            square, moment = closest(way, BENT)
            self.assertEqual(near(way, BENT, square)[0][0], moment)
        self.assertGreater(way[-1][1][1][1], 10 ** 60)
