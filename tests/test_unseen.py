"""Point 10, guarantee (d): what can have been between two LOOKS, with a place and a moment, or a paper."""
import random
import unittest
from fractions import Fraction

from crossingstold.moments import compared, moment_of, rounded_down, shifted
from crossingstold.unseen import (
    can_leave, can_touch, nearest, paper, shows_can_leave, shows_can_touch, shows_nearest, shows_paper)
from tests.geometry import (
    far_between, hull, least_sum, lies_inside, patch_of, places_of, random_patch, random_spot, sum_at)
from tests.helpers import NEVER, NO_POINTS, number, refused, spot, worth

# Seen at 0 0, and 10 later at 6 0: at a speed of 1 it can go 10, and touches just what is at most 4 from its way's middle.
ONE, OTHER, SPEED = ((0, 1), spot(0, 0)), ((10, 1), spot(6, 0)), (1, 1)
TINY = Fraction(1, 2 ** 60)
HALL = patch_of((-1, -1), (7, -1), (7, 1), (-1, 1))


def look(moment, x, y):
    """A LOOK."""
    return (number(moment), spot(x, y))


def box(low, high, bottom, top):
    """The PATCH of all between two x and two y."""
    return patch_of((low, bottom), (high, bottom), (high, top), (low, top))


def dot(vector, point, place):
    """What a vector tells of what one POINT is more than another one."""
    return sum(worth(n) * (worth(p) - worth(q)) for n, p, q in zip(vector, point, place))


class Nearest(unittest.TestCase):
    def check(self, point, goal, patch, told):
        """That nearest tells this POINT, either way round, when it is the only one."""
        self.assertEqual(nearest(point, goal, patch), told)
        self.assertEqual(nearest(goal, point, patch), told)
        self.assertIs(shows_nearest(point, goal, patch, told), True)

    def test_beside_the_way(self):
        for bottom, told in ((2, spot(3, 2)), (3, spot(3, 3)), (Fraction(1, 7), spot(3, Fraction(1, 7)))):
            self.check(spot(0, 0), spot(6, 0), box(2, 4, bottom, bottom + 2), told)
        # Mirrored in the line y = 2, the goal 6 1 is at 6 3: 0 0 goes there by 4 2.
        self.check(spot(0, 0), spot(6, 1), box(2, 5, 2, 4), spot(4, 2))
        self.check(spot(0, 0), spot(6, 1), box(2, 4, 2, 4), spot(4, 2))
        self.check(spot(0, 0), spot(6, 1), box(2, 3, 2, 4), spot(3, 2))
        self.check(spot(0, 0), spot(6, 1), box(5, 7, 2, 4), spot(5, 2))
        self.check(spot(0, 0), spot(6, 0), box(7, 9, 1, 2), spot(7, 1))
        self.check(spot(0, 0), spot(6, 0), box(7, 9, -2, -1), spot(7, -1))
        self.check(spot(0, 0), spot(6, 0), box(7, 9, -2, 3), spot(7, 0))
        self.check(spot(0, 0), spot(6, 0), box(-9, -1, 0, 3), spot(-1, 0))

    def test_a_side_that_is_askew(self):
        # The line x + y = 6: 1 1 mirrored is 5 5, so from 1 1 to 2 0 the way goes by the one or other spot of it.
        patch = patch_of((0, 6), (6, 0), (6, 6))
        self.check(spot(1, 1), spot(1, 1), patch, spot(3, 3))
        self.check(spot(0, 0), spot(2, 2), patch, spot(3, 3))
        self.check(spot(0, 2), spot(2, 0), patch, spot(3, 3))
        self.check(spot(1, 0), spot(0, 1), patch, spot(3, 3))
        self.check(spot(9, 0), spot(9, 0), patch_of((0, 6), (6, 0), (6, 6)), spot(6, 0))

    def test_a_corner_touched_by_the_straight_way(self):
        self.check(spot(0, 0), spot(6, 6), patch_of((2, 4), (3, 3), (3, 4)), spot(3, 3))
        self.check(spot(0, 0), spot(6, 0), patch_of((2, 2), (3, 0), (4, 2)), spot(3, 0))
        self.check(spot(0, 0), spot(6, 0), patch_of((6, 0), (8, -1), (8, 1)), spot(6, 0))

    def test_many_as_near(self):
        one, other = spot(0, 0), spot(6, 0)
        for patch, right, wrong in (
                (box(2, 4, 0, 2), [spot(2, 0), spot(3, 0), spot(4, 0), spot(Fraction(20001, 10000), 0)], [spot(3, Fraction(1, 10 ** 9)), spot(5, 0)]),
                (box(-1, 7, 0, 2), [spot(0, 0), spot(1, 0), spot(6, 0)], [spot(-1, 0), spot(7, 0), spot(6, 1), spot(0, Fraction(1, 10 ** 9))]),
                (box(-1, 7, -2, 2), [spot(0, 0), spot(5, 0), spot(6, 0)], [spot(-1, 0), spot(3, 1), spot(Fraction(-1, 10 ** 9), 0)]),
                (box(-1, 3, -2, 2), [spot(0, 0), spot(3, 0), spot(1, 0)], [spot(4, 0), spot(6, 0), spot(-1, 0)]),
                (box(3, 7, -2, 2), [spot(3, 0), spot(6, 0), spot(5, 0)], [spot(7, 0), spot(0, 0), spot(2, 0)]),
                (patch_of((1, -1), (4, 2), (2, 4)), [spot(2, 0), spot(Fraction(7, 4), 0)], [spot(4, 0), spot(1, 0), spot(2, 1)])):
            for told in right:
                self.assertIs(shows_nearest(one, other, patch, told), True, told)
                self.assertIs(shows_nearest(other, one, patch, told), True, told)
            for told in wrong:
                self.assertIs(shows_nearest(one, other, patch, told), False, told)
            self.assertTrue(shows_nearest(one, other, patch, nearest(one, other, patch)))
            self.assertTrue(shows_nearest(other, one, patch, nearest(other, one, patch)))

    def test_both_places_the_same(self):
        patch = box(2, 4, 2, 4)
        for x, y, told in ((0, 0, (2, 2)), (3, 0, (3, 2)), (5, 3, (4, 3)), (3, 3, (3, 3)), (2, 2, (2, 2)), (9, 9, (4, 4)), (4, 3, (4, 3)), (0, 9, (2, 4))):
            self.check(spot(x, y), spot(x, y), patch, spot(*told))

    def test_a_place_on_the_line_of_a_side(self):
        patch = box(2, 4, 0, 2)
        # By the line x = 2, the goal at 4 5, half way.
        self.check(spot(0, 0), spot(0, 3), patch, spot(2, Fraction(3, 2)))
        self.check(spot(5, 0), spot(9, 0), patch, spot(4, 0))
        self.check(spot(0, 0), spot(0, 0), patch, spot(2, 0))
        self.check(spot(0, 0), spot(1, 0), patch, spot(2, 0))
        self.check(spot(0, 0), spot(3, -1), patch, spot(2, 0))
        self.check(spot(0, 0), spot(1, -1), patch, spot(2, 0))
        self.check(spot(4, 5), spot(4, 9), patch, spot(4, 2))

    def test_two_ways_round_as_long(self):
        # Mirrored in x = 3, or gone straight through: the sides of this one are met half way, the corners later.
        self.check(spot(0, 0), spot(0, 0), patch_of((3, -2), (4, -1), (4, 1), (3, 2)), spot(3, 0))
        self.check(spot(0, -3), spot(0, 3), patch_of((3, -2), (4, -1), (4, 1), (3, 2)), spot(3, 0))
        # The sum is the same at both ends of a side, and less between them.
        self.check(spot(-5, 0), spot(5, 0), patch_of((-1, 2), (1, 2), (0, 3)), spot(0, 2))

    def test_no_points_of_it(self):
        patch = box(2, 4, 2, 4)
        for value in [*NO_POINTS, spot(3, 1), spot(0, 0), spot(6, 0), spot(2, 2), ((3, 1), (2, 1), (1, 1)), [(3, 1), (2, 1)], (3, 2), ((3, 1), [2, 1])]:
            self.assertIs(shows_nearest(spot(0, 0), spot(6, 0), patch, value), False, value)

    def test_many(self):
        chance = random.Random(11)
        for _ in range(250):
            patch, point, goal = random_patch(chance), random_spot(chance), random_spot(chance)
            told = nearest(point, goal, patch)
            self.assertTrue(lies_inside(patch, told))
            self.assertAlmostEqual(float(sum_at(told, point, goal)), least_sum(point, goal, patch), 7)
            self.assertTrue(shows_nearest(point, goal, patch, told))
            self.assertTrue(shows_nearest(goal, point, patch, told))
            for _ in range(4):
                other = random_spot(chance)
                so = lies_inside(patch, other) and abs(sum_at(other, point, goal) - sum_at(told, point, goal)) < 1e-40
                self.assertIs(shows_nearest(point, goal, patch, other), so)
            for corner in patch:
                so = abs(sum_at(corner, point, goal) - sum_at(told, point, goal)) < 1e-40
                self.assertIs(shows_nearest(point, goal, patch, corner), so)


class Touch(unittest.TestCase):
    def check(self, one, other, speed, patch, can):
        """That just one of both tells something, and that each is taken; what can_touch tells."""
        touch, vectors = can_touch(one, other, speed, patch), paper(one, other, speed, patch)
        self.assertEqual([touch is not None, vectors is not None], [can, not can], (one, other, speed, patch))
        self.assertIs(shows_can_touch(one, other, speed, patch, touch), True)
        self.assertIs(shows_paper(one, other, speed, patch, vectors), True)
        self.assertIs(shows_can_touch(one, other, speed, patch, None), not can)
        self.assertIs(shows_paper(one, other, speed, patch, None), can)
        if can:
            self.assertTrue(lies_inside(patch, touch[0]))
            self.assertIs(shows_paper(one, other, speed, patch, touch), False)
        else:
            for vector in vectors:
                self.assertLessEqual(sum(worth(n) ** 2 for n in vector), 1)
            reach = worth(speed) * (worth(other[0]) - worth(one[0]))
            for corner in patch:
                self.assertGreater(dot(vectors[0], corner, one[1]) + dot(vectors[1], corner, other[1]), reach)
        return touch

    def test_just_so_a_little_less_a_little_more(self):
        for bottom, can in ((4, True), (4 - TINY, True), (4 + TINY, False), (3, True), (5, False), (40, False)):
            self.check(ONE, OTHER, SPEED, box(2, 4, bottom, bottom + 2), can)
            self.check(ONE, OTHER, SPEED, box(2, 4, -bottom - 2, -bottom), can)
            self.check(look(0, 6, 0), look(10, 0, 0), SPEED, box(2, 4, bottom, bottom + 2), can)
        self.assertEqual(can_touch(ONE, OTHER, SPEED, box(2, 4, 4, 6)), (spot(3, 4), (5, 1)))

    def test_by_the_speed_and_by_the_time(self):
        patch = box(2, 4, 4, 6)
        for speed, can in ((1 - TINY, False), (1, True), (1 + TINY, True), (9, True)):
            self.check(ONE, OTHER, number(speed), patch, can)
        for moment, can in ((10 - TINY, False), (10, True), (10 + TINY, True), (9, False), (20, True)):
            self.check(ONE, (number(moment), OTHER[1]), SPEED, patch, can)
        for moment, can in ((TINY, False), (-TINY, True), (-3, True), (1, False)):
            self.check((number(moment), ONE[1]), OTHER, SPEED, patch, can)

    def test_where_the_least_sum_is_no_fraction(self):
        # The straight way by the lower side, mirrored, is the root of 72, some 8.48; that by the corner 2 1 of the
        # lower triangle is the roots of 5 and 17.
        root = moment_of(1, 0, -72, 1)
        for patch, least in ((box(2, 4, 3, 5), root), (patch_of((2, 1), (3, 5), (2, 5)), None)):
            for n in (20, 64):
                if least is None:
                    low = sum(worth(rounded_down(moment_of(1, 0, -square, 1), n)) for square in (5, 17))
                    high = low + Fraction(2, 2 ** n)
                else:
                    low = worth(rounded_down(least, n))
                    high = low + Fraction(1, 2 ** n)
                self.check(ONE, (number(low), OTHER[1]), SPEED, patch, False)
                self.check(ONE, (number(high), OTHER[1]), SPEED, patch, True)

    def test_the_moment_is_any_from_when_it_can_come_to_when_it_has_to_go(self):
        patch = box(2, 4, 1, 3)
        # From 2 1 it is the root of 5 back, and the root of 17 on.
        low, high = moment_of(1, 0, -5, 1), shifted(moment_of(1, 0, -17, -1), (10, 1))
        for moment, right in ((low, True), (high, True), ((3, 1), True), (shifted(low, number(-TINY)), False), (shifted(high, number(TINY)), False),
                              (shifted(low, number(TINY)), True), (shifted(high, number(-TINY)), True), ((9, 4), True), ((2, 1), False), ((6, 1), False),
                              (moment_of(1, 0, -6, 1), True), (moment_of(1, 0, -6, -1), False)):
            self.assertIs(shows_can_touch(ONE, OTHER, SPEED, patch, (spot(2, 1), moment)), right, moment)
        for place, right in ((spot(2, 1), True), (spot(3, 1), True), (spot(2, 3), True), (spot(1, 1), False), (spot(3, 0), False), (spot(3, 4), False)):
            self.assertIs(shows_can_touch(ONE, OTHER, SPEED, patch, (place, (4, 1))), right, place)
        self.assertIs(shows_can_touch(ONE, OTHER, SPEED, box(2, 4, 3, 5), (spot(3, 4), (5, 1))), True)
        self.assertIs(shows_can_touch(ONE, OTHER, SPEED, box(2, 4, 3, 5), (spot(3, 4 + TINY), (5, 1))), False)
        self.assertIs(shows_can_touch(ONE, OTHER, SPEED, box(2, 4, 3, 5), (spot(3, 4), number(5 + TINY))), False)

    def test_on_the_way_round_a_place_round_both(self):
        for patch in (box(2, 4, -1, 1), box(-1, 1, -1, 1), box(5, 7, -1, 1), HALL, box(0, 2, 0, 2), patch_of((0, 0), (1, -5), (2, -5)), box(6, 7, 0, 1)):
            self.check(ONE, OTHER, SPEED, patch, True)
            # Also where there is just the time to go straight.
            self.check(ONE, (number(6), OTHER[1]), SPEED, patch, True)

    def test_just_straight(self):
        straight = (number(6), OTHER[1])
        for patch, can in ((box(2, 4, 0, 2), True), (box(2, 4, TINY, 2), False), (patch_of((2, 2), (3, 0), (4, 2)), True), (box(6, 8, 0, 1), True),
                           (box(6 + TINY, 8, -1, 1), False), (box(-3, 0, -1, 1), True), (box(-3, -TINY, -1, 1), False),
                           (patch_of((2, -1), (3, -TINY), (2, 5)), True), (patch_of((2, -5), (4, -5), (3, -TINY)), False)):
            self.check(ONE, straight, SPEED, patch, can)
        self.assertEqual(can_touch(ONE, straight, SPEED, patch_of((2, 2), (3, 0), (4, 2))), (spot(3, 0), (3, 1)))

    def test_both_looks_at_one_place(self):
        one, other = look(2, 1, 1), look(6, 1, 1)
        for patch, can in ((box(3, 4, 0, 2), True), (box(3 + TINY, 4, 0, 2), False), (box(0, 2, 0, 2), True), (box(1, 2, 3, 4), True), (box(3, 4, 3, 4), False),
                           (patch_of((2, 3), (3, 2), (3, 3)), False), (patch_of((1, 3), (3, 2), (3, 3)), True)):
            self.check(one, other, SPEED, patch, can)
        self.assertEqual(can_touch(one, other, SPEED, box(3, 4, 0, 2)), (spot(3, 1), (4, 1)))

    def test_papers(self):
        patch = box(2, 4, 5, 7)
        # At its lower corners 3/5 and 4/5 tell 3/5 (2 - 6) + 8, and so on.
        good = (((3, 5), (4, 5)), ((-3, 5), (4, 5)))
        self.assertIs(shows_paper(ONE, OTHER, SPEED, patch, good), True)
        self.assertIs(shows_paper(ONE, OTHER, SPEED, patch, good[::-1]), False)
        self.assertIs(shows_paper(ONE, OTHER, SPEED, patch, (spot(0, 1), spot(0, 1))), False)
        more = number(Fraction(3, 5) + TINY)
        for wrong in (((more, (4, 5)), good[1]), (good[0], ((-3, 5), number(Fraction(4, 5) + TINY))),
                      (good[0], (spot(0, 1)[0], (1, 1), (0, 1))), (good[0],), (*good, good[0]), list(good), ([(3, 5), (4, 5)], good[1]),
                      (good[0], spot(0, 0)), (good[0], None), (((3, 5), (8, 10)), good[1]), ((0.6, 0.8), (-0.6, 0.8)), ((3, 4), (-3, 4)),
                      (good[0], (spot(-1, 1))), (spot(0, 0), spot(0, 0)), good[0], ((1, 1), (0, 1)), (good, good)):
            self.assertIs(shows_paper(ONE, OTHER, SPEED, patch, wrong), False, wrong)
        # A little shorter they do, too.
        self.assertIs(shows_paper(ONE, OTHER, SPEED, patch, (((3, 5), number(Fraction(4, 5) - TINY)), good[1])), True)

    def test_papers_that_fail_at_one_corner_alone_or_tell_just_reach(self):
        good = (((3, 5), (4, 5)), ((-3, 5), (4, 5)))
        # They tell 18/5 and 8/5 y: above 10 just where y is above 4.
        for corners in (((2, 5), (4, 5), (3, 6)), ((2, 9), (3, 4 + TINY), (4, 9))):
            self.assertIs(shows_paper(ONE, OTHER, SPEED, patch_of(*corners), good), True)
        self.check(ONE, OTHER, SPEED, patch_of((2, 9), (3, 4), (4, 9)), True)
        across = (spot(0, 1), spot(0, 1))
        # These tell 2 y: just reach is not above it.
        for corners, right in ((((2, 9), (5, 5 + TINY), (8, 9)), True), (((2, 9), (5, 5), (8, 9)), False), (((2, 9), (5, 5 - TINY), (8, 9)), False),
                               (((2, 6), (5, 6), (8, 5), (5, 7)), False), (((2, 5), (9, 6), (8, 7)), False), (((2, 6), (5, 5 + TINY), (8, 6), (8, 5 + 2 * TINY)), None)):
            if right is not None:
                self.assertIs(shows_paper(ONE, OTHER, SPEED, patch_of(*hull(corners)), across), right, corners)
            self.assertIsNotNone(paper(ONE, OTHER, SPEED, patch_of(*hull(corners))))

    def test_values_of_other_kinds(self):
        low, high = box(2, 4, 2, 4), box(2, 4, 5, 7)
        for value in [*[one for one in NEVER if one is not None], (spot(3, 2), 5), [spot(3, 2), (5, 1)], (list(spot(3, 2)), (5, 1)), (spot(3, 2), [5, 1]),
                      (spot(3, 2), (5, True)), (((3, True), (2, 1)), (5, 1)), (spot(3, 2),), (spot(3, 2), (5, 1), None), (spot(3, 2), None), ((5, 1), spot(3, 2)),
                      (spot(3, 2), "5"), (spot(3, 2), (10, 2)), spot(3, 2), (None, (5, 1))]:
            for patch in (low, high):
                self.assertIs(shows_can_touch(ONE, OTHER, SPEED, patch, value), False, value)
                self.assertIs(shows_paper(ONE, OTHER, SPEED, patch, value), False, value)

    def test_apart(self):
        for one, other, speed in ((ONE, look(0, 0, 0), SPEED), (ONE, look(-1, 0, 0), SPEED), (ONE, look(6 - TINY, 6, 0), SPEED), (ONE, OTHER, number(Fraction(3, 5) - TINY)),
                                  (OTHER, ONE, SPEED), (ONE, ONE, SPEED), (ONE, look(1, 1, 1), SPEED), (ONE, look(Fraction(14142, 10000), 1, 1), SPEED)):
            for function in (can_touch, paper, can_leave):
                self.assertEqual(refused(function, one, other, speed, HALL), ("Apart", (one, other)))
            for function in (shows_can_touch, shows_paper, shows_can_leave):
                self.assertEqual(refused(function, one, other, speed, HALL, None), ("Apart", (one, other)))
        self.check(ONE, look(Fraction(14143, 10000), 1, 1), SPEED, HALL, True)
        self.check(ONE, OTHER, (3, 5), HALL, True)
        # What is wrong in itself comes first.
        self.assertEqual(refused(can_touch, ONE, ONE, SPEED, HALL[::-1]), ("BadPatch", HALL[::-1]))
        self.assertEqual(refused(can_leave, ONE, ONE, (0, 1), HALL[::-1]), ("BadSpeed", (0, 1)))

    def test_what_was_told_may_be_handed_in_again(self):
        chance = random.Random(12)
        for _ in range(20):
            patch, one = random_patch(chance), (number(chance.randint(-99, 99), 7), random_spot(chance))
            place = nearest(one[1], random_spot(chance), patch)
            told = paper(one, (number(worth(one[0]) + Fraction(1, 10 ** 9)), one[1]), (1, 10 ** 9), patch)
            if told is not None:
                place = (told[0][0], told[1][1])
            other = (number(worth(one[0]) + 40), place)
            self.check(one, other, SPEED, patch, can_touch(one, other, SPEED, patch) is not None)
            self.assertTrue(shows_nearest(one[1], place, patch, nearest(one[1], place, patch)))

    def test_many(self):
        chance = random.Random(13)
        met = [0, 0]
        for _ in range(250):
            patch, place, other = random_patch(chance, 3), random_spot(chance, 8), random_spot(chance, 8)
            speed, one = number(chance.randint(1, 5), chance.choice([1, 2, 3])), (number(chance.randint(-3, 3), 2), place)
            time = Fraction(int(far_between(place, other) * 1000) + 1, 1000) / worth(speed) * Fraction(chance.choice([101, 105, 120, 150, 250]), 100)
            time += Fraction(chance.choice([1, 10, 100]), 100)
            seen = (number(worth(one[0]) + time), other)
            least = least_sum(one[1], other, patch)
            reach = float(worth(speed) * time)
            if abs(least - reach) > 1e-6:
                self.check(one, seen, speed, patch, least < reach)
                met[least < reach] += 1
        self.assertGreater(min(met), 40)


class Leave(unittest.TestCase):
    def check(self, one, other, speed, patch, can):
        """That can_leave tells something, or doesn't, and that it is taken."""
        told = can_leave(one, other, speed, patch)
        self.assertIs(told is not None, can, (one, other, speed, patch))
        self.assertIs(shows_can_leave(one, other, speed, patch, told), True)
        self.assertIs(shows_can_leave(one, other, speed, patch, None), not can)
        if can:
            self.assertFalse(lies_inside(patch, told[0]))
            self.assertTrue(shows_can_touch(one, other, speed, patch_of(*[(x + d, y + e) for (x, y) in places_of((told[0],)) for d, e in ((0, 0), (1, 0), (0, 1))]), told))

    def test_just_enough_for_the_mirror_image_and_a_little_more(self):
        # From 0 0 by the line y = 1, or y = -1, to 6 0: the root of 40. By x = -1 or x = 7: 8.
        root = moment_of(1, 0, -40, 1)
        low = worth(rounded_down(root, 64))
        self.check(ONE, (number(low), OTHER[1]), SPEED, HALL, False)
        self.check(ONE, (number(low + TINY), OTHER[1]), SPEED, HALL, True)
        tall = box(-1, 7, -9, 9)
        for moment, can in ((8 - TINY, False), (8, False), (8 + TINY, True), (9, True)):
            self.check(ONE, (number(moment), OTHER[1]), SPEED, tall, can)
        one, other = look(0, 0, 0), look(1, 0, 0)
        for far, can in ((Fraction(1, 2), False), (Fraction(1, 2) - TINY, True), (Fraction(1, 2) + TINY, False)):
            self.check(one, other, SPEED, box(-far, 9, -9, 9), can)
            self.check(one, other, SPEED, box(-9, 9, -9, far), can)

    def test_within_on_a_rim_at_a_corner(self):
        for one, other, can in ((look(0, 3, 0), look(1, 3, 0), False), (look(0, 3, 0), look(3, 3, 0), True), (look(0, 3, 0), look(2, 3, 0), False),
                                (look(0, 3, 1), look(TINY, 3, 1), True), (look(0, 7, 1), look(TINY, 7, 1), True), (look(0, 3, 1), look(1, 4, 1), False),
                                (look(0, 3, 1), look(1 + TINY, 4, 1), True), (look(0, -1, -1), look(8, 7, -1), False), (look(0, 3, 1), look(2, 3, -1), False),
                                (look(0, 3, 1), look(2 + TINY, 3, -1), True), (look(0, -1, 1), look(2, -1, -1), False), (look(0, -1, 0), look(1, 0, 0), False),
                                (look(0, -1, 0), look(1 + TINY, 0, 0), True)):
            self.check(one, other, SPEED, HALL, can)

    def test_not_in(self):
        out, within = look(0, 8, 0), look(0, 6, 0)
        other_out, other_within = look(9, 8, 0), look(9, 6, 0)
        self.assertEqual(refused(can_leave, out, other_within, SPEED, HALL), ("NotIn", out))
        self.assertEqual(refused(can_leave, within, other_out, SPEED, HALL), ("NotIn", other_out))
        self.assertEqual(refused(can_leave, out, other_out, SPEED, HALL), ("NotIn", out))
        self.assertEqual(refused(shows_can_leave, out, other_out, SPEED, HALL, None), ("NotIn", out))
        self.assertEqual(refused(shows_can_leave, look(0, 7 + TINY, 0), other_within, SPEED, HALL, None), ("NotIn", look(0, 7 + TINY, 0)))
        self.assertEqual(refused(can_leave, out, look(0, 8, 0), SPEED, HALL), ("Apart", (out, out)))
        self.check(look(0, 7, 0), other_within, SPEED, HALL, True)

    def test_values(self):
        one, other = look(0, 3, 0), look(4, 3, 0)
        self.check(one, other, SPEED, HALL, True)
        for value, right in (((spot(3, 2), (2, 1)), True), ((spot(3, 1), (2, 1)), False), ((spot(3, 1 + TINY), (2, 1)), True), ((spot(3, 2 + TINY), (2, 1)), False),
                             ((spot(3, 2), number(2 + TINY)), False), ((spot(3, 2), number(2 - TINY)), False), ((spot(3, -2), (2, 1)), True),
                             ((spot(3, Fraction(3, 2)), (3, 2)), True), ((spot(3, Fraction(3, 2)), (5, 2)), True), ((spot(3, Fraction(3, 2)), (1, 1)), False),
                             ((spot(3, Fraction(3, 2)), moment_of(1, 0, -3, 1)), True), ((spot(3, 0), (2, 1)), False), ([spot(3, 2), (2, 1)], False),
                             ((spot(3, 2), 2), False), ((spot(3, 2),), False), (spot(3, 2), False), ((spot(3, 2), (2, 1), None), False), (True, False), ((), False)):
            self.assertIs(shows_can_leave(one, other, SPEED, HALL, value), right, value)
        for value in NEVER:
            self.assertIs(shows_can_leave(one, other, SPEED, HALL, value), False)
            self.assertIs(shows_can_leave(one, look(1, 3, 0), SPEED, HALL, value), value is None)

    def test_many(self):
        chance = random.Random(14)
        met = [0, 0]
        for _ in range(200):
            patch = random_patch(chance)
            corners = places_of(patch)
            inner = []
            for _ in range(2):
                shares = [chance.choice([0, 0, 1, 2, 3]) for _ in corners]
                shares[0] += 1
                inner.append(spot(*[sum(n * c[k] for n, c in zip(shares, corners)) / sum(shares) for k in (0, 1)]))
            speed = number(chance.randint(1, 3), 2)
            reach = Fraction(int(far_between(*inner) * 1000) + chance.choice([1, 100, 1000, 3000]), 1000)
            one, other = ((0, 1), inner[0]), (number(reach / worth(speed)), inner[1])
            least = []
            for n in range(len(corners)):
                (x, y), (v, w) = corners[n - 1], corners[n]
                p, q = [(worth(a), worth(b)) for a, b in inner]
                part = ((q[0] - x) * (w - y) - (q[1] - y) * (v - x)) / ((v - x) ** 2 + (w - y) ** 2)
                mirrored = spot(q[0] - 2 * part * (w - y), q[1] + 2 * part * (v - x))
                least.append(far_between(spot(*p), mirrored))
            can = min(float(far) for far in least) < float(reach)
            if abs(min(float(far) for far in least) - float(reach)) > 1e-9:
                self.check(one, other, speed, patch, can)
                met[can] += 1
        self.assertGreater(min(met), 20)


class Together(unittest.TestCase):
    def test_the_moment_told_is_the_first_or_a_later_one(self):
        chance = random.Random(15)
        for _ in range(60):
            patch, place, goal = random_patch(chance), random_spot(chance), random_spot(chance)
            one, other = ((0, 1), place), ((40, 1), goal)
            told = can_touch(one, other, SPEED, patch)
            self.assertIsNotNone(told)
            self.assertGreaterEqual(compared(told[1], (0, 1)), 0)
            self.assertLessEqual(compared(told[1], (40, 1)), 0)


if __name__ == "__main__":
    unittest.main()
