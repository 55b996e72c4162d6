"""Point 11, guarantee (e): when a thing can have been in a PATCH between two LOOKS, and when it surely was."""
import itertools
import random
import unittest
from fractions import Fraction

from crossingstold.cones import can_be_in, earliest, is_surely_in, surely_in, when_at, when_can
from crossingstold.moments import moment_of, shifted
from crossingstold.regions import region_of
from crossingstold.stretches import both, has, stretches_text
from crossingstold.unseen import can_leave, can_touch, paper
from crossingstold.ways import during
from tests.geometry import (
    as_float, far_between, floats, least_on_rim, lies_inside, margin_of_can, margin_of_surely, patch_of, random_patch, random_spot)
from tests.helpers import NO_MOMENTS, number, order_of, refused, spot, worth

ONE, OTHER, SPEED = ((0, 1), spot(0, 0)), ((10, 1), spot(6, 0)), (1, 1)
TINY = Fraction(1, 2 ** 60)
STRAIGHT = ((6, 1), spot(6, 0))
HUGE = patch_of((-99, -99), (99, -99), (99, 99), (-99, 99))


def look(moment, x, y):
    """A LOOK."""
    return (number(moment), spot(x, y))


def box(low, high, bottom, top):
    """The PATCH of all between two x and two y."""
    return patch_of((low, bottom), (high, bottom), (high, top), (low, top))


def can_text(patch, one=ONE, other=OTHER, speed=SPEED):
    """The text of what when_can tells, which is the same backwards."""
    told = when_can(one, other, speed, patch)
    back = when_can((number(-worth(other[0])), other[1]), (number(-worth(one[0])), one[1]), speed, patch)
    assert [(low, high) for low, _, high, _ in told] == [(minus(high), minus(low)) for low, _, high, _ in back]
    return stretches_text(told)


def surely_text(patch, one=ONE, other=OTHER, speed=SPEED):
    """The text of what surely_in tells, which is the same backwards."""
    told = surely_in(one, other, speed, patch)
    back = surely_in((number(-worth(other[0])), other[1]), (number(-worth(one[0])), one[1]), speed, patch)
    assert told == tuple([(minus(high), high_in, minus(low), low_in) for low, low_in, high, high_in in reversed(back)])
    return stretches_text(told)


def minus(moment):
    """A MOMENT below 0 as far as this one is above it."""
    if len(moment) == 2:
        return (-moment[0], moment[1])
    a, b, c, side = moment
    return (a, -b, c, -side)


class At(unittest.TestCase):
    def test_points(self):
        for x, y, told in ((3, 4, "[5, 5]"), (0, 4, ""), (2, 1, "[root 1 0 -5 high, root 1 -20 83 low]"), (0, 0, "[0, 4]"), (6, 0, "[6, 10]"), (3, 0, "[3, 7]"),
                           (3, -4, "[5, 5]"), (3, 4 + TINY, ""), (8, 0, "[8, 8]"), (-2, 0, "[2, 2]"), (8 + TINY, 0, ""), (-1, 0, "[1, 3]"), (9, 9, "")):
            self.assertEqual(stretches_text(when_at(ONE, OTHER, SPEED, spot(x, y))), told, (x, y))
        self.assertEqual(len(when_at(ONE, OTHER, SPEED, spot(3, 4 - TINY))), 1)

    def test_other_speeds_and_moments(self):
        self.assertEqual(stretches_text(when_at(look(-1, 1, 1), look(Fraction(5, 2), 1, 1), (2, 1), spot(2, 1))), "[-1/2, 2]")
        self.assertEqual(stretches_text(when_at(look(-1, 1, 1), look(Fraction(5, 2), 1, 1), (2, 3), spot(2, 2))), "")
        self.assertEqual(stretches_text(when_at(look(-1, 1, 1), look(Fraction(5, 2), 1, 1), (2, 1), spot(2, 2))), "[root 2 4 1 high, root 4 -20 23 low]")

    def test_straight(self):
        for x, y, told in ((0, 0, "[0, 0]"), (2, 0, "[2, 2]"), (6, 0, "[6, 6]"), (7, 0, ""), (-1, 0, ""), (2, TINY, ""), (Fraction(1, 3), 0, "[1/3, 1/3]")):
            self.assertEqual(stretches_text(when_at(ONE, STRAIGHT, SPEED, spot(x, y))), told)

    def test_many(self):
        chance = random.Random(21)
        for _ in range(200):
            one, other, point = (number(chance.randint(-3, 3)), random_spot(chance)), (number(chance.randint(4, 20)), random_spot(chance)), random_spot(chance)
            speed = number(chance.randint(1, 5), 2)
            told = refused(when_at, one, other, speed, point)
            reach = worth(speed) * (worth(other[0]) - worth(one[0]))
            if float(far_between(one[1], other[1])) > reach:
                self.assertEqual(told, ("Apart", (one, other)))
                continue
            low = float(worth(one[0])) + float(far_between(one[1], point)) / float(worth(speed))
            high = float(worth(other[0])) - float(far_between(other[1], point)) / float(worth(speed))
            self.assertEqual(len(told), 1 if low <= high else 0)
            for (first, first_in, last, last_in) in told:
                self.assertEqual((first_in, last_in), (True, True))
                self.assertAlmostEqual(as_float(first), low, 9)
                self.assertAlmostEqual(as_float(last), high, 9)


class WhenCan(unittest.TestCase):
    def test_nearest_spots_corners_and_sides(self):
        for patch, told in (
                (box(2, 4, 3, 5), "[root 1 0 -13 high, root 1 -20 87 low]"), (box(-1, 1, -1, 1), "[0, 5]"), (box(5, 7, -1, 1), "[5, 10]"),
                (box(2, 4, -1, 1), "[2, 8]"), (HUGE, "[0, 10]"), (box(2, 4, 4, 6), "[5, 5]"), (box(2, 4, 4 + TINY, 6), ""), (box(3, 4, 4, 6), "[5, 5]"),
                (box(Fraction(7, 2), 4, 4, 6), ""), (box(0, 6, -1, 1), "[0, 10]"), (box(1, 6, -1, 1), "[1, 10]"), (box(-3, -2, -1, 1), "[2, 2]"),
                (box(-3, -2 - TINY, -1, 1), ""), (box(8, 9, -1, 1), "[8, 8]"), (box(7, 9, -1, 1), "[7, 9]"), (patch_of((-3, 4), (4, 4), (-3, 5)), "[5, 5]")):
            self.assertEqual(can_text(patch), told, patch)

    def test_first_within_a_side_from_which_the_other_look_can_just_be_come_to(self):
        higher = patch_of((-3, Fraction(7, 2)), (3, Fraction(7, 2)), (3, 9), (-3, 9))
        self.assertEqual(when_can(ONE, OTHER, SPEED, higher), (((64, -640, 1465, -1), True, (4, -80, 315, -1), True),))
        # All the lower rim that can be come to lies within the side: both moments are such.
        self.assertEqual(can_text(box(-3, 9, Fraction(7, 2), 9)), "[root 64 -640 1465 low, root 64 -640 1465 high]")
        self.assertEqual(can_text(box(-3, -1, -9, 9)), "[1, 3]")
        # Along x = -1 from y = 1 on the nearest spot is -1 1: the other look is the root of 50 from there, so it can.
        self.assertEqual(can_text(box(-3, -1, 1, 9)), "[root 1 0 -2 high, root 1 -20 50 low]")
        self.assertEqual(can_text(box(-3, -1, Fraction(3, 2), 9)), "[root 4 0 -13 high, root 4 -80 195 low]")

    def test_a_patch_beyond_what_can_be_come_to_round_one_and_round_both(self):
        self.assertEqual(can_text(box(20, 30, 20, 30)), "")
        self.assertEqual(can_text(box(-1, 1, -1, 1)), "[0, 5]")
        self.assertEqual(can_text(box(-50, 50, -1, 1)), "[0, 10]")

    def test_straight(self):
        for patch, told in ((box(2, 4, -1, 1), "[2, 4]"), (box(2, 4, 0, 1), "[2, 4]"), (box(2, 4, TINY, 1), ""), (patch_of((2, 2), (3, 0), (4, 2)), "[3, 3]"),
                            (box(6, 8, -1, 1), "[6, 6]"), (box(-2, 0, -1, 1), "[0, 0]"), (HUGE, "[0, 6]"), (patch_of((2, -1), (5, -1), (2, 2)), "[2, 4]"),
                            (box(7, 8, -1, 1), ""), (box(-1, 3, -5, 0), "[0, 3]")):
            self.assertEqual(can_text(patch, ONE, STRAIGHT), told, patch)
            self.assertEqual(surely_text(patch, ONE, STRAIGHT), told, patch)
            self.assertEqual(when_can(ONE, STRAIGHT, SPEED, patch), during(region_of(patch), (ONE, STRAIGHT)))

    def test_both_looks_at_one_place(self):
        one, other = look(0, 1, 1), look(8, 1, 1)
        for patch, told in ((box(0, 2, 0, 2), "[0, 8]"), (box(3, 5, 0, 2), "[2, 6]"), (box(5, 7, 0, 2), "[4, 4]"), (box(5 + TINY, 7, 0, 2), ""),
                            (box(3, 5, 2, 4), "[root 1 0 -5 high, root 1 -16 59 low]"), (box(1, 2, 1, 2), "[0, 8]"), (box(5, 7, 1, 2), "[4, 4]"), (box(5, 7, 2, 3), "")):
            self.assertEqual(can_text(patch, one, other), told, patch)

    def test_a_little_more_than_straight(self):
        other = look(6 + TINY, 6, 0)
        for patch, can in ((box(2, 4, 0, 1), True), (box(2, 4, Fraction(1, 2 ** 40), 1), True), (box(2, 4, Fraction(1, 2 ** 20), 1), False)):
            told = when_can(ONE, other, SPEED, patch)
            self.assertEqual(told != (), can)
            self.assertEqual(can_touch(ONE, other, SPEED, patch) is not None, can)
            self.assertEqual(paper(ONE, other, SPEED, patch) is None, can)

    def test_many_moments(self):
        chance = random.Random(22)
        met = {}
        for _ in range(150):
            one, other, speed, patch = random_seen(chance)
            told = when_can(one, other, speed, patch)
            self.assertLessEqual(len(told), 1)
            self.assertIs(told == (), can_touch(one, other, speed, patch) is None)
            self.assertIs(told == (), paper(one, other, speed, patch) is not None)
            check_moments(self, told, lambda moment: margin_of_can(one, other, speed, patch, moment), one, other, chance, met)
            for low, low_in, high, high_in in told:
                self.assertEqual([low_in, high_in], [True, True])
        self.assertGreater(min(met[True], met[False]), 300, met)

    def test_can_be_in(self):
        patch = box(2, 4, 3, 5)
        low, high = moment_of(1, 0, -13, 1), moment_of(1, -20, 87, -1)
        for moment, so in ((low, True), (high, True), ((4, 1), True), ((5, 1), True), (shifted(low, number(-TINY)), False), (shifted(high, number(TINY)), False),
                           (shifted(low, number(TINY)), True), (shifted(high, number(-TINY)), True), ((0, 1), False), ((-5, 1), False), ((99, 1), False),
                           (moment_of(1, 0, -14, 1), True), (moment_of(1, 0, -14, -1), False), ((7, 2), False)):
            self.assertIs(can_be_in(ONE, OTHER, SPEED, patch, moment), so, moment)
            self.assertIs(has(when_can(ONE, OTHER, SPEED, patch), moment), so)


def random_seen(chance):
    """Two LOOKS that hang together, a SPEED and a PATCH."""
    patch = random_patch(chance, 3)
    first, last = [random_spot(chance, 4) for _ in range(2)]
    if chance.random() < 0.3:
        first = patch[chance.randrange(len(patch))]
    if chance.random() < 0.15:
        last = first
    if chance.random() < 0.3:
        last = spot(*[sum(worth(corner[k]) for corner in patch) / len(patch) for k in (0, 1)])
    speed = number(chance.randint(1, 5), chance.choice([1, 2, 3]))
    time = Fraction(int(float(far_between(first, last)) / float(worth(speed)) * 8) + chance.choice([1, 1, 2, 8, 20]), 8)
    begin = Fraction(chance.randint(-4, 4), 2)
    return (number(begin), first), (number(begin + time), last), speed, patch


def check_moments(test, told, margin, one, other, chance, met):
    """That what is told of some moments, those beside ends among them, is what the margin tells, where that is clear."""
    begin, end = worth(one[0]), worth(other[0])
    tried = [begin + (end - begin) * Fraction(n, 17) for n in range(18)]
    for stretch in told:
        for edge in (stretch[0], stretch[2]):
            near = Fraction(as_float(edge)).limit_denominator(10 ** 9)
            tried += [near + far for far in (Fraction(-1, 500), Fraction(1, 500), Fraction(-1, 20), Fraction(1, 20))]
    for moment in tried:
        if begin <= moment <= end:
            value = margin(moment)
            if abs(value) > 1e-6:
                so = has(told, number(moment))
                test.assertIs(so, value < 0, (one, other, moment, value))
                met[so] = met.get(so, 0) + 1
    for low, _, high, _ in told:
        for edge, limit in ((low, begin), (high, end)):
            if order_of(edge, number(limit)) != 0:
                test.assertAlmostEqual(margin(as_float(edge)), 0, 5)


class SurelyIn(unittest.TestCase):
    def test_one_two_none_one_moment_all(self):
        for patch, told in (
                (box(-1, 1, -1, 1), "[0, 1]"), (HUGE, "[0, 10]"), (box(5, 7, -1, 1), "[9, 10]"), (box(-1, 7, -1, 1), "[0, 1]; [9, 10]"), (box(2, 4, -9, 9), ""),
                (box(0, 7, -1, 1), "[0, 0]; [9, 10]"), (box(0, 7, 0, 1), "[0, 0]; [10, 10]"), (box(0, 2, -1, 1), "[0, 0]"), (box(-2, 8, -4, 4), "[0, 10]"),
                (box(-2, 8, -5, 5), "[0, 10]"), (box(-2, 8, -4 + TINY, 5), None), (box(-2 + TINY, 8, -5, 5), None), (box(-2, 3, -5, 5), "[0, 3]"),
                (box(-1, 9, -9, 9), "[0, 1]; [3, 10]"), (box(-2, 8, -9, 4), "[0, 10]"), (box(1, 5, -3, 3), ""), (box(-2, 8, -9, 0), "[0, 0]; [10, 10]")):
            if told is not None:
                self.assertEqual(surely_text(patch), told, patch)
            else:
                self.assertEqual(len(surely_in(ONE, OTHER, SPEED, patch)), 2)

    def test_a_side_from_which_the_other_look_can_just_be_come_to(self):
        # It can go beyond y = 7/2 from the moment on at which it can first be on this line, and still come to 6 0.
        self.assertEqual(surely_text(box(-9, 9, -9, Fraction(7, 2))), "[0, root 64 -640 1465 low]; [root 64 -640 1465 high, 10]")
        # And beyond y = 3 by 0 3, from which the other look is the root of 45: that is too late for it, so it goes by another spot.
        self.assertEqual(surely_text(box(-9, 9, -9, 3)), surely_text(box(-9, 9, -3, 9)))
        self.assertEqual(surely_text(box(-9, 9, -9, 1)), "[0, 1]; [9, 10]")
        self.assertEqual(surely_text(box(-9, 9, -1, 2)), "[0, 1]; [9, 10]")

    def test_a_place_outside(self):
        self.assertEqual(surely_text(box(1, 7, -1, 1)), "[9, 10]")
        self.assertEqual(surely_text(box(-1, 5, -9, 9)), "[0, 1]; [3, 5]")
        self.assertEqual(surely_text(box(20, 30, 20, 30)), "")
        self.assertEqual(surely_text(patch_of((0, 0), (6, -2), (6, 2))), "[0, 0]; [10, 10]")

    def test_both_looks_at_one_place(self):
        one, other = look(0, 1, 1), look(8, 1, 1)
        for patch, told in ((box(0, 2, 0, 2), "[0, 1]; [7, 8]"), (box(-3, 5, -3, 5), "[0, 8]"), (box(-3, 5, -3, 5 - TINY), None), (box(1, 2, 1, 2), "[0, 0]; [8, 8]"),
                            (box(2, 3, 2, 3), ""), (box(-3, 3, -3, 5), "[0, 2]; [6, 8]"), (patch_of((0, 2), (2, 0), (9, 9)), "[0, 0]; [8, 8]")):
            if told is not None:
                self.assertEqual(surely_text(patch, one, other), told, patch)
            else:
                low, high = surely_in(one, other, SPEED, patch)
                self.assertEqual([low[2], high[0]], [number(4 - TINY), number(4 + TINY)])

    def test_many_moments(self):
        chance = random.Random(23)
        met, many = {}, {}
        for _ in range(250):
            one, other, speed, patch = random_seen(chance)
            told = surely_in(one, other, speed, patch)
            many[len(told)] = many.get(len(told), 0) + 1
            check_moments(self, told, lambda moment: margin_of_surely(one, other, speed, patch, moment), one, other, chance, met)
            self.assertEqual(both(told, when_can(one, other, speed, patch)), told)
            for low, low_in, high, high_in in told:
                self.assertEqual([low_in, high_in], [True, True])
            for look_there in (one, other):
                self.assertIs(has(told, look_there[0]), lies_inside(patch, look_there[1]))
        self.assertGreater(min(met[True], met[False]), 200, met)
        self.assertGreater(min(many[0], many[1], many[2]), 20, many)

    def test_is_surely_in(self):
        patch = box(-9, 9, -9, Fraction(7, 2))
        low = moment_of(64, -640, 1465, -1)
        for moment, so in (((0, 1), True), (low, True), (shifted(low, number(TINY)), False), (shifted(low, number(-TINY)), True), ((5, 1), False), ((10, 1), True),
                           (moment_of(64, -640, 1465, 1), True), ((-1, 1), False), (number(10 + TINY), False), (moment_of(1, 0, -2, 1), True), (moment_of(1, 0, -2, -1), False)):
            self.assertIs(is_surely_in(ONE, OTHER, SPEED, patch, moment), so, moment)

    def test_apart_comes_ahead_of_the_moment(self):
        late = look(5, 6, 0)
        for function in (can_be_in, is_surely_in):
            for wrong in NO_MOMENTS[::4]:
                self.assertEqual(refused(function, ONE, late, SPEED, HUGE, wrong), ("Apart", (ONE, late)))
                self.assertEqual(refused(function, ONE, OTHER, SPEED, HUGE, wrong), ("BadMoment", wrong))
        for function in (when_can, surely_in):
            self.assertEqual(refused(function, ONE, late, SPEED, HUGE), ("Apart", (ONE, late)))
            self.assertEqual(refused(function, OTHER, ONE, SPEED, HUGE), ("Apart", (OTHER, ONE)))
            self.assertEqual(refused(function, ONE, ONE, SPEED, HUGE), ("Apart", (ONE, ONE)))
        self.assertEqual(refused(when_at, ONE, late, SPEED, spot(1, 1)), ("Apart", (ONE, late)))
        self.assertEqual(refused(when_at, ONE, ONE, SPEED, spot(0, 0)), ("Apart", (ONE, ONE)))


class JustSo(unittest.TestCase):
    """Sides askew that are mirrors of whole lengths: what is just come to, a little less and a little more."""

    TURNS = [(Fraction(1), Fraction(0)), (Fraction(3, 5), Fraction(4, 5)), (Fraction(5, 13), Fraction(-12, 13)), (Fraction(-8, 17), Fraction(15, 17)), (Fraction(0), Fraction(1))]
    # How far the looks are apart, twice how far the side is from them, and how far it is by the side.
    MIRRORS = [(6, 8, 10), (3, 4, 5), (12, 5, 13), (0, 4, 4), (8, 15, 17)]

    def cases(self):
        for (cosine, sine), (apart, twice, around), part in itertools.product(self.TURNS, self.MIRRORS, (Fraction(1), Fraction(1, 3))):
            def turned(x, y):
                return (cosine * x - sine * y + 2, sine * x + cosine * y - Fraction(1, 2))
            yield turned, part * apart, part * Fraction(twice, 2), part * around

    def patch(self, turned, *corners):
        """The PATCH of these corners, turned."""
        row = [turned(*corner) for corner in corners]
        first = row.index(min(row))
        return patch_of(*row[first:], *row[:first])

    def trips(self, turned, apart, around):
        """Two LOOKS with just the time to go round, a little more, a little less; and which of these."""
        for speed, more in itertools.product((Fraction(1), Fraction(2, 3)), (0, TINY, -TINY)):
            time = around / speed + more
            if time * speed >= apart:
                yield (look(-1, *turned(0, 0)), look(time - 1, *turned(apart, 0)), number(speed)), more, time

    def test_what_is_just_touched(self):
        for turned, apart, high, around in self.cases():
            for low, top in ((-1, 0), (0, 3), (-2, 1)):
                patch = self.patch(turned, (apart / 2 + low, high), (apart / 2 + low + 2, high), (apart / 2 + 1, high + top + 3))
                for trip, more, time in self.trips(turned, apart, around):
                    told, touch = when_can(*trip, patch), can_touch(*trip, patch)
                    self.assertEqual([told == (), touch is None, paper(*trip, patch) is None], [more < 0, more < 0, more >= 0])
                    if more == 0:
                        half = number(time / 2 - 1)
                        self.assertEqual([told, touch[1]], [((half, True, half, True),), half])

    def test_what_is_just_not_left(self):
        for turned, apart, high, around in self.cases():
            patch = self.patch(turned, (-50, -60), (90, -60), (90, high), (-50, high))
            for trip, more, _ in self.trips(turned, apart, around):
                surely, left = surely_in(*trip, patch), can_leave(*trip, patch)
                whole = ((trip[0][0], True, trip[1][0], True),)
                self.assertEqual([surely == whole, left is None, len(surely)], [more <= 0, more <= 0, 2 if more > 0 else 1])
                if left is not None:
                    self.assertEqual([surely[0][0], surely[1][2], has(surely, left[1])], [trip[0][0], trip[1][0], False])


class Earliest(unittest.TestCase):
    def test_from_within_from_a_rim_from_outside(self):
        patch = box(2, 4, 3, 5)
        for x, y, told in ((0, 0, (1, 0, -13, 1)), (3, 4, (0, 1)), (2, 4, (0, 1)), (2, 3, (0, 1)), (3, 0, (3, 1)), (9, 4, (5, 1)), (3, 9, (4, 1)), (7, 9, (5, 1)),
                           (5, 2, (1, 0, -2, 1)), (-1, 3, (3, 1))):
            self.assertEqual(earliest(look(0, x, y), SPEED, patch), told)
            self.assertEqual(earliest(look(Fraction(-1, 2), x, y), SPEED, patch), shifted(told, (-1, 2)))
        self.assertEqual(earliest(look(0, 0, 0), (2, 1), patch), (4, 0, -13, 1))
        self.assertEqual(earliest(look(1, 3, 0), (2, 3), patch), (11, 2))

    def test_many(self):
        chance = random.Random(24)
        for _ in range(100):
            one, speed, patch = (number(chance.randint(-3, 3), 2), random_spot(chance)), number(chance.randint(1, 5), 3), random_patch(chance)
            x, y = floats(one[1])
            far = 0.0 if lies_inside(patch, one[1]) else least_on_rim(patch, lambda a, b: ((a - x) ** 2 + (b - y) ** 2) ** 0.5)
            self.assertAlmostEqual(as_float(earliest(one, speed, patch)), float(worth(one[0])) + far / float(worth(speed)), 7)
            # With a later look far off in time it is the beginning of when_can.
            late = (number(worth(one[0]) + 999), one[1])
            self.assertEqual(when_can(one, late, speed, patch)[0][0], earliest(one, speed, patch))


if __name__ == "__main__":
    unittest.main()
