"""Point 6: REGIONS, put together of half planes and discs."""
import itertools
import random
import unittest
from fractions import Fraction
from math import gcd

from crossingstold.regions import is_in, moved, parts, read_region, region_of, region_text, size
from tests.helpers import (
    NO_FRACTIONS, NO_POINTS, inside, number, random_region, refused, shown_wrong, spot, text_of, worth)

HALF = ("half", 1, -2, 3)
DISC = ("disc", spot(0, 0), (9, 4))
ROW = tuple([("half", 1, 0, n) for n in range(8)])


def nested(deep, word="not", inner=HALF):
    """A REGION nested so deep, inner being 1 deep."""
    for _ in range(deep - 1):
        inner = (word, inner)
    return inner


def with_leaves(many):
    """A REGION with so many halves, at most 64 of them, all alike."""
    return ("or", *[("and", *[HALF] * len(range(many)[first:first + 8])) for first in range(0, many, 8)])


def random_regions(seed, many):
    """So many REGIONS."""
    chance = random.Random(seed)
    return [random_region(chance, 5, 12) for _ in range(many)]


class Bounds(unittest.TestCase):
    def check(self, region, right):
        """That each function takes the REGION, and its text, or that each refuses both."""
        calls = [(region_text, ()), (is_in, (spot(1, 1),)), (parts, ()), (size, ()), (moved, (spot(1, 1),))]
        for function, others in calls:
            if right:
                function(region, *others)
            else:
                shown_wrong(self, function, region, *others)
        text = text_of(region)
        if right:
            self.assertEqual(region_text(region), text)
            self.assertEqual(read_region(text), region)
        else:
            shown_wrong(self, read_region, text)

    def test_eight_and_nine_deep(self):
        for word in ("not", "and", "or"):
            for inner in (HALF, DISC):
                self.check(nested(8, word, inner), True)
                self.check(nested(9, word, inner), False)
                self.check(("or", HALF, nested(7, word, inner)), True)
                self.check(("or", HALF, nested(8, word, inner)), False)
        self.assertEqual(size(nested(8)), (8, 8))
        self.check(nested(60), False)
        self.check(("and", HALF, nested(8), HALF), False)

    def test_thirty_and_thirty_one_halves_and_discs(self):
        for many in (1, 8, 9, 29, 30):
            self.check(with_leaves(many), True)
            self.check(("not", with_leaves(many)), True)
        for many in (31, 32, 64):
            self.check(with_leaves(many), False)
            self.check(("not", with_leaves(many)), False)
        # Each is counted at each place at which it stands, also within one tuple that stands twice.
        fifteen = ("and", ("or", *ROW), ("or", *ROW[:6], DISC))
        self.check(("or", fifteen, fifteen), True)
        self.check(("or", fifteen, fifteen, DISC), False)
        self.check(("or", DISC, ("not", fifteen), fifteen), False)
        self.assertEqual(size(("or", fifteen, fifteen)), (37, 4))
        self.assertEqual(size(("or", fifteen, fifteen))[0] - 7, 30)

    def test_how_many_stand_behind_a_word(self):
        for word in ("and", "or"):
            for many in range(1, 9):
                self.check((word, *ROW[:many]), True)
            self.check((word,), False)
            self.check((word, *ROW, DISC), False)
            self.check((word, *[DISC] * 12), False)
            self.check(("not", (word,)), False)
            self.check(("and", HALF, (word,)), False)
        self.check(("not", DISC), True)
        self.check(("not",), False)
        self.check(("not", HALF, DISC), False)
        self.check(("not", HALF, HALF, HALF), False)

    def test_what_is_told_twice_over_and_over_is_refused_soon(self):
        value = HALF
        for _ in range(58):
            value = ("and", *[value] * 8)
        shown_wrong(self, region_text, value)


class Nearly(unittest.TestCase):
    def test_nearly_halves(self):
        for wrong in (
                ("half", 0, 0, 1), ("half", 0, 0, 0), ("half", 1, 2), ("half", 1, 2, 3, 4), ("half", True, 1, 1),
                ("half", 1, False, 1), ("half", 1, 1, True), ("half", False, True, 0), ("half", (1, 1), (0, 1), (2, 1)),
                ("half", 1, 0, (1, 2)), ("half", "1", 0, 2), ("half", None, 1, 1), ("Half", 1, 2, 3), (b"half", 1, 2, 3),
                ["half", 1, 2, 3], "half 1 2 3", ("half", [1, 2, 3]), ("half", spot(1, 1), 1)):
            shown_wrong(self, region_text, wrong)
            shown_wrong(self, region_text, ("and", HALF, wrong))
            shown_wrong(self, region_text, ("not", wrong))
            for at in range(5):
                shown_wrong(self, size, ("or", *[wrong if to == at else HALF for to in range(5)]))

    def test_nearly_discs(self):
        for wrong in NO_FRACTIONS + [(-1, 1), (-1, 4)]:
            shown_wrong(self, region_text, ("disc", spot(0, 0), wrong))
        for wrong in NO_FRACTIONS:
            shown_wrong(self, size, ("disc", (wrong, (1, 1)), (1, 1)))
            shown_wrong(self, parts, ("disc", ((1, 1), wrong), (1, 1)))
        for wrong in NO_POINTS:
            shown_wrong(self, is_in, ("or", ("disc", wrong, (1, 1))), spot(0, 0))
            for at in range(4):
                shown_wrong(self, size, ("and", *[("disc", wrong, (1, 1)) if to == at else DISC for to in range(4)]))
        for wrong in (("disc", spot(0, 0)), ("disc", (0, 1), (0, 1), (1, 1)), ("disc", spot(0, 0), (1, 1), (1, 1)),
                      ("disc",), ("disc", (1, 1)), ("disc", (*spot(0, 0), (0, 1)), (1, 1))):
            shown_wrong(self, moved, wrong, spot(0, 0))
        self.assertEqual(region_text(("disc", spot(0, 0), (0, 1))), "(disc 0 0 0)")

    def test_numbers_of_a_half_may_have_a_common_divisor(self):
        self.assertEqual(read_region("(half 2 4 6)"), ("half", 2, 4, 6))
        self.assertEqual(region_text(("half", 0, -2, 0)), "(half 0 -2 0)")


class Inside(unittest.TestCase):
    def test_rims(self):
        for text, told in (
                ("(half 1 -2 3)", {(3, 0): True, (5, 1): True, (4, 0): False, (2, 0): True, ("31/10", 0): False}),
                ("(half 0 2 -1)", {(7, "-1/2"): True, (7, "-49/100"): False, (7, "-51/100"): True}),
                ("(disc 0 0 25)", {(3, 4): True, (-5, 0): True, (5, "1/1000"): False, (4, "29/10"): True}),
                ("(disc 1/2 1/3 0)", {("1/2", "1/3"): True, ("1/2", "1/4"): False}),
                ("(disc 1 1 2)", {(0, 0): True, (2, 2): True, ("12/5", 1): True, ("5/2", 1): False}),
                ("(not (disc 0 0 25))", {(3, 4): False, (3, 5): True, (0, 0): False, ("7/5", "-24/5"): False}),
                ("(not (half 1 -2 3))", {(3, 0): False, ("3001/1000", 0): True, (2, 0): False}),
                ("(not (not (half 1 -2 3)))", {(3, 0): True, (4, 0): False}),
                ("(and (disc 0 0 25) (half -1 0 -3))", {(3, 4): True, (2, 0): False, (5, 0): True, (6, 0): False}),
                ("(or (disc 0 0 25) (half -1 0 -3))", {(3, 4): True, (2, 0): True, (6, 0): True, (-6, 0): False}),
                ("(and (not (disc 0 0 1)) (or (half 1 0 0)))", {(0, 1): False, (0, 2): True, (1, 2): False})):
            region = read_region(text)
            for (x, y), wanted in told.items():
                self.assertIs(is_in(region, spot(Fraction(x), Fraction(y))), wanted, (text, x, y))

    def test_many(self):
        chance = random.Random(1)
        for region in random_regions(2, 150):
            for _ in range(30):
                x, y = [Fraction(chance.randint(-8, 8), chance.randint(1, 3)) for _ in range(2)]
                self.assertIs(is_in(region, spot(x, y)), inside(region, x, y), (region, x, y))


class Parts(unittest.TestCase):
    def test_plain_ones(self):
        other = ("half", 2, -4, 6)
        for region, told in (
                (HALF, (HALF,)), (DISC, (DISC,)), (("not", DISC), (DISC,)), (("and", HALF, HALF, HALF), (HALF,)),
                (("and", DISC, HALF), (DISC, HALF)), (("or", HALF, DISC, HALF), (HALF, DISC)),
                (("or", ("not", DISC), ("and", HALF, DISC)), (DISC, HALF)),
                # The same POINTS, but unlike tuples.
                (("and", other, HALF, ("not", other)), (other, HALF)),
                (("or", ("and", ROW[3], ROW[1]), ROW[2], ("not", ("or", ROW[1], ROW[0])), ROW[3]),
                 (ROW[3], ROW[1], ROW[2], ROW[0])),
                (("and", ("disc", spot(0, 0), (1, 1)), ("disc", spot(0, 0), (2, 1)), ("disc", spot(0, 1), (1, 1))),
                 (("disc", spot(0, 0), (1, 1)), ("disc", spot(0, 0), (2, 1)), ("disc", spot(0, 1), (1, 1))))):
            self.assertEqual(parts(region), told)

    def test_sizes(self):
        for region, told in (
                (HALF, (1, 1)), (DISC, (1, 1)), (("not", DISC), (2, 2)), (("and", HALF, HALF, HALF), (4, 2)),
                (("or", ("not", DISC), ("and", HALF, DISC)), (6, 3)), (("and", *ROW), (9, 2)),
                (("and", HALF, ("not", ("not", HALF)), HALF), (6, 4)), (nested(8, "or"), (8, 8)),
                (("or", ("not", ("not", HALF)), ("not", HALF)), (6, 4))):
            self.assertEqual(size(region), told)

    def test_many(self):
        for region in random_regions(3, 150):
            text = region_text(region)
            deep = most = 0
            for sign in text:
                deep += {"(": 1, ")": -1}.get(sign, 0)
                most = max(most, deep)
            self.assertEqual(size(region), (text.count("("), most))
            leaves = [text_of(part) for part in parts(region)]
            self.assertEqual(len(leaves), len(set(leaves)))
            places = [text.find(leaf) for leaf in leaves]
            self.assertEqual(places, sorted(places))
            self.assertNotIn(-1, places)
            for leaf in leaves:
                text = text.replace(leaf, "")
            self.assertNotIn("half", text)
            self.assertNotIn("disc", text)


# Corners in the document's sequence.
PATCHES = [
    (spot(0, 0), spot(1, 0), spot(0, 1)),
    (spot(0, 0), spot(4, 0), spot(4, 2), spot(0, 2)),
    (spot(-1, Fraction(1, 2)), spot(Fraction(1, 3), -2), spot(2, 1), spot(1, 2)),
    (spot(-3, 0), spot(-2, -2), spot(0, -3), spot(2, -2), spot(3, 0), spot(2, 2), spot(0, 3), spot(-2, 2)),
    (spot(0, 0), spot(3, -5), spot(10 ** 9 - 1, 1), spot(0, 10 ** 9 - 1)),
]


def turn(one, two, three):
    """Above 0 if the way by these POINTS turns against the clock, by Python's own fractions."""
    (a, b), (c, d), (e, f) = [[worth(fraction) for fraction in point] for point in (one, two, three)]
    return (c - a) * (f - b) - (d - b) * (e - a)


class Patches(unittest.TestCase):
    def test_plain_ones(self):
        for patch, told in (
                (PATCHES[0], "(and (half 0 -1 0) (half 1 1 1) (half -1 0 0))"),
                (PATCHES[1], "(and (half 0 -1 0) (half 1 0 4) (half 0 1 2) (half -1 0 0))"),
                ((spot(0, 0), spot(6, 0), spot(0, 4)), "(and (half 0 -1 0) (half 2 3 12) (half -1 0 0))"),
                ((spot(Fraction(1, 2), 0), spot(1, 0), spot(1, Fraction(1, 3))),
                 "(and (half 0 -1 0) (half 1 0 1) (half -2 3 -1))")):
            self.assertEqual(region_text(region_of(patch)), told)

    def test_the_halves_are_those_of_the_sides(self):
        for patch in PATCHES:
            word, *halves = region_of(patch)
            self.assertEqual((word, len(halves)), ("and", len(patch)))
            for at, (kind, a, b, c) in enumerate(halves):
                self.assertEqual((kind, gcd(a, b, c)), ("half", 1))
                for to, corner in enumerate(patch):
                    x, y = [worth(fraction) for fraction in corner]
                    on_side = to in (at, (at + 1) % len(patch))
                    self.assertEqual(a * x + b * y == c, on_side)
                    self.assertLessEqual(a * x + b * y, c)

    def test_points_within_sides_and_corners(self):
        for patch in PATCHES[:4]:
            region = region_of(patch)
            for x, y in itertools.product([Fraction(n, 3) for n in range(-15, 16)], repeat=2):
                point = spot(x, y)
                within = all(turn(one, other, point) >= 0 for one, other in zip(patch, patch[1:] + patch[:1]))
                self.assertIs(is_in(region, point), within)
            for one, other in zip(patch, patch[1:] + patch[:1]):
                middle = [(worth(p) + worth(q)) / 2 for p, q in zip(one, other)]
                self.assertTrue(is_in(region, one))
                self.assertTrue(is_in(region, spot(*middle)))

    def test_wrong_sequences(self):
        for patch in PATCHES:
            region_of(patch)
            for begin in range(1, len(patch)):
                shown_wrong(self, region_of, patch[begin:] + patch[:begin], name="BadPatch")
            shown_wrong(self, region_of, patch[::-1], name="BadPatch")
            shown_wrong(self, region_of, patch[:1] + patch[:0:-1], name="BadPatch")
        for patch in PATCHES[1:3]:
            for other in itertools.permutations(patch):
                if other != patch:
                    shown_wrong(self, region_of, other, name="BadPatch")
        # A star turns against the clock at each corner, too.
        star = (spot(-3, 1), spot(2, -3), spot(0, 3), spot(-2, -3), spot(3, 1))
        self.assertTrue(all(turn(*[star[(at + step) % 5] for step in range(3)]) > 0 for at in range(5)))
        shown_wrong(self, region_of, star, name="BadPatch")
        for patch in PATCHES[:2]:
            shown_wrong(self, region_of, patch * 2, name="BadPatch")

    def test_three_on_one_line_dents_and_doubled_corners(self):
        for wrong in (
                (spot(0, 0), spot(1, 0), spot(2, 0)), (spot(0, 0), spot(1, 1), spot(2, 2)),
                (spot(0, 0), spot(2, 0), spot(4, 0), spot(4, 2)), (spot(0, 0), spot(4, 0), spot(4, 2), spot(2, 1)),
                (spot(0, 0), spot(4, 0), spot(4, 2), spot(0, 2), spot(0, 1)), (spot(0, 0), spot(4, 0), spot(1, 1), spot(0, 4)),
                (spot(0, 0), spot(4, 0), spot(4, 4), spot(2, 1)), (spot(0, 0), spot(0, 0), spot(4, 0), spot(4, 2)),
                (spot(0, 0), spot(4, 0), spot(4, 0), spot(4, 2)), (spot(0, 0), spot(4, 0), spot(4, 2), spot(0, 0)),
                (spot(0, 0), spot(0, 0), spot(0, 0)), (spot(0, 0), spot(4, 0), spot(4, 2), spot(4, 2))):
            shown_wrong(self, region_of, wrong, name="BadPatch")

    def test_the_least_by_x_then_by_y(self):
        low, high, far = spot(0, 0), spot(0, 1), spot(1, Fraction(1, 2))
        self.assertEqual(region_text(region_of((low, far, high))), "(and (half 1 -2 0) (half 1 2 2) (half -1 0 0))")
        shown_wrong(self, region_of, (high, low, far), name="BadPatch")
        shown_wrong(self, region_of, (far, high, low), name="BadPatch")
        low, high, far = spot(0, 5), spot(0, 7), spot(3, 6)
        self.assertEqual(region_text(region_of((low, far, high))), "(and (half 1 -3 -15) (half 1 3 21) (half -1 0 0))")
        shown_wrong(self, region_of, (high, low, far), name="BadPatch")
        low, high, far = spot(-1, -7), spot(-1, -5), spot(3, -6)
        self.assertEqual(region_text(region_of((low, far, high))), "(and (half 1 -4 27) (half 1 4 -21) (half -1 0 1))")
        shown_wrong(self, region_of, (high, low, far), name="BadPatch")

    def test_how_many_corners(self):
        ring = (spot(-9, 0), spot(-8, -4), spot(-4, -8), spot(0, -9), spot(4, -8), spot(8, -4), spot(9, 0), spot(0, 9))
        for many in range(3, 9):
            self.assertEqual(len(region_of(ring[:many])), many + 1)
        for wrong in ((), ring[:1], ring[:2], (*ring[:7], spot(8, 4), ring[7]), ring + ring[:2]):
            shown_wrong(self, region_of, wrong, name="BadPatch")

    def test_corners_that_are_none(self):
        patch = PATCHES[1]
        for wrong in (*NO_POINTS, spot(4, 2) + spot(4, 2), list(spot(4, 2)), ((8, 2), (2, 1)), ((4, 1), (2, -1))):
            shown_wrong(self, region_of, (*patch[:2], wrong, patch[3]), name="BadPatch")
        for wrong in NO_FRACTIONS:
            shown_wrong(self, region_of, (*patch[:2], (wrong, (2, 1)), patch[3]), name="BadPatch")
            shown_wrong(self, region_of, (*patch[:2], ((4, 1), wrong), patch[3]), name="BadPatch")
        for wrong in (list(patch), patch[0], region_of(patch), None, "", {}):
            shown_wrong(self, region_of, wrong, name="BadPatch")


class Moved(unittest.TestCase):
    def test_halves(self):
        for half, by, told in (
                ((1, -2, 3), spot(1, 1), (1, -2, 2)), ((1, -2, 3), spot(0, 0), (1, -2, 3)),
                ((2, 4, 6), spot(1, 0), (2, 4, 8)), ((2, 4, 6), spot(0, 0), (2, 4, 6)),
                # The least integer that makes c an integer: 2 x is 1 more, or 2/3 more.
                ((2, 0, 1), spot(Fraction(1, 2), 9), (2, 0, 2)), ((2, 0, 1), spot(Fraction(1, 3), 9), (6, 0, 5)),
                ((1, 1, 0), spot(Fraction(1, 2), Fraction(1, 2)), (1, 1, 1)),
                ((1, 1, 0), spot(Fraction(1, 2), Fraction(1, 3)), (6, 6, 5)),
                ((1, 1, 0), spot(Fraction(1, 2), Fraction(-1, 2)), (1, 1, 0)),
                ((3, 6, 9), spot(Fraction(1, 9), 0), (9, 18, 28)), ((4, 0, 2), spot(Fraction(1, 8), 0), (8, 0, 5)),
                ((0, -1, 0), spot(Fraction(1, 7), Fraction(1, 3)), (0, -3, -1)),
                ((6, 0, 0), spot(Fraction(1, 4), 0), (12, 0, 3)), ((-5, 0, 5), spot(Fraction(-3, 10), 0), (-10, 0, 13))):
            self.assertEqual(moved(("half", *half), by), ("half", *told), (half, by))
            self.assertEqual(moved(("not", ("half", *half)), by), ("not", ("half", *told)))

    def test_discs(self):
        disc = ("disc", spot(Fraction(1, 2), -1), (9, 4))
        self.assertEqual(moved(disc, spot(Fraction(1, 2), Fraction(1, 3))), ("disc", spot(1, Fraction(-2, 3)), (9, 4)))
        self.assertEqual(moved(("or", disc, disc), spot(0, 0)), ("or", disc, disc))

    def test_many(self):
        chance = random.Random(4)
        for region in random_regions(5, 120):
            p, q = [Fraction(chance.randint(-9, 9), chance.randint(1, 9)) for _ in range(2)]
            told = moved(region, spot(p, q))
            self.assertEqual(size(told), size(region))
            self.assertEqual(read_region(region_text(told)), told)
            for _ in range(12):
                x, y = [Fraction(chance.randint(-8, 8), chance.randint(1, 3)) for _ in range(2)]
                self.assertIs(is_in(told, spot(x + p, y + q)), inside(region, x, y))
            whole = spot(int(p), int(q))
            self.assertEqual(moved(moved(region, whole), spot(-int(p), -int(q))), region)

    def test_many_moves_with_numbers_that_grow_great(self):
        region = ("and", HALF, DISC)
        for bottom in range(999999000, 999999300):
            region = moved(region, ((1, bottom), (-1, bottom)))
        self.assertEqual(read_region(region_text(region)), region)
        self.assertFalse(is_in(region, spot(9, 9)))


class Texts(unittest.TestCase):
    def test_there_and_back(self):
        for region in [*random_regions(6, 200), with_leaves(30), nested(8), nested(8, "and", DISC)]:
            text = region_text(region)
            self.assertEqual(text, text_of(region))
            self.assertEqual(read_region(text), region)
        for text, region in (
                ("(half 1 -2 3)", HALF), ("(disc 0 0 9/4)", DISC), ("(or (half 1 -2 3))", ("or", HALF)),
                ("(disc -1/2 3 0)", ("disc", ((-1, 2), (3, 1)), (0, 1))), ("(not (disc 0 0 9/4))", ("not", DISC)),
                ("(and (half 1 -2 3) (not (or (disc 0 0 9/4))))", ("and", HALF, ("not", ("or", DISC))))):
            self.assertEqual(region_text(region), text)
            self.assertEqual(read_region(text), region)

    def test_nearly_texts(self):
        for text in (
                "", " ", "(", ")", "()", "( )", ")(", "(())", "half 1 2 3", "(half 1 2 3", "half 1 2 3)", "(half 1 2)",
                "(half 1 2 3 4)", "(half)", "(half )", "( half 1 2 3)", "(half 1 2 3 )", "(half  1 2 3)", "(half 1  2 3)",
                " (half 1 2 3)", "(half 1 2 3) ", "(half 1 2 3)\n", "(half 1\n2 3)", "(half 1 2 3))", "((half 1 2 3)",
                "((half 1 2 3))", "(half 0 0 1)", "(half 1/2 1 1)", "(half 1 1 1/2)", "(half 2/1 1 1)", "(half +1 0 1)",
                "(half 01 0 1)", "(half 1 -0 1)", "(half 1 0 00)", "(half a b c)", "(Half 1 2 3)", "(HALF 1 2 3)",
                "[half 1 2 3]", "(half, 1, 2, 3)", "(half 1 2 (3))", "(half (1 2 3))", "(half 1 2 3)(half 1 2 3)",
                "(half 1 2 3) (half 1 2 3)", "(disc 0 0)", "(disc 0 0 1 1)", "(disc 0 0 -1)", "(disc 0 0 -1/4)",
                "(disc (0 0) 1)", "(disc 0 0 2/2)", "(disc 0 0 2/4)", "(disc 0 0 1/0)", "(disc 0/1 0 1)", "(disc 0 0 4/1)",
                "(disc 0 0 0.25)", "(disc 0 0 root 1 0 -2 high)", "(disc +0 0 1)", "(disc 0 -0 1)", "(disc 0 0  1)",
                "(and)", "(or)", "(not)", "(and )", "(and half 1 2 3)", "(and(half 1 2 3))", "(and (half 1 2 3)(half 1 2 3))",
                "(and (half 1 2 3)  (half 1 2 3))", "(and  (half 1 2 3))", "(and (half 1 2 3) )", "(and (half 0 0 3))",
                "(and (half 1 2 3) x)", "(and x (half 1 2 3))", "(and (half 1 2 3) ())", "(xor (half 1 2 3))",
                "(nand (half 1 2 3))", "(not (half 1 2 3) (half 1 2 3))", "(not half 1 2 3)", "(not (not))",
                "(not (half 1 2 3)", "(not (half 1 2 3)))", "(in van (half 1 2 3))", "((half 1 2 3) and (half 1 2 3))",
                "None", "('half', 1, 2, 3)", "(half 1 2 3);", "(half 1 2 None)", "(disc 0 0)(", "(" * 60, ")" * 60,
                "(" * 5000, "(not " * 5000 + "(half 1 2 3)" + ")" * 5000, "(half 1 2 3" + ")" * 9):
            self.assertEqual(refused(read_region, text), ("BadRegion", text))

    def test_what_is_no_text(self):
        for value in (None, True, 5, HALF, ["(half 1 2 3)"], ("(half 1 2 3)",), {}, b"(half 1 2 3)"):
            self.assertEqual(refused(read_region, value), ("BadRegion", value))
