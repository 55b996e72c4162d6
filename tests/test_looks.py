"""Point 12, guarantee (f): next looks, WAYS that slip by later ones, and looks along a WAY."""
import random
import unittest
from fractions import Fraction

from crossingstold.looks import next_by, next_look, plan, rim_distance, shows_slipped, slipped
from crossingstold.moments import compared, moment_of, rounded_down, shifted
from crossingstold.regions import region_of
from crossingstold.ways import at, during, part, read_way, speeds, way_text
from tests.geometry import as_float, floats, least_on_rim, lies_inside, patch_of, random_patch, random_spot, square_patch
from tests.helpers import NEVER, number, refused, spot, worth
from tests.model import random_way

FAR, NEAR, ONE, TWO, NOUGHT = square_patch(3, 4, 2), square_patch(1, 1, 1), (1, 1), (2, 1), (0, 1)
LOOK = ((0, 1), spot(0, 0))
TINY = Fraction(1, 2 ** 60)
SPACE = square_patch(-99, -99, 198)


def look(moment, x, y):
    """A LOOK."""
    return (number(moment), spot(x, y))


class RimDistance(unittest.TestCase):
    def test_each_place(self):
        for x, y, told in ((0, 0, 25), (4, 5, 1), (3, 4, 0), (4, 4, 0), (5, Fraction(9, 2), 0), (4, 0, 16), (9, 5, 16), (6, 7, 2), (2, 7, 2), (4, Fraction(11, 2), Fraction(1, 4)),
                           (Fraction(7, 2), 5, Fraction(1, 4)), (3, 9, 9), (5, 3, 1), (Fraction(10, 3), Fraction(13, 3), Fraction(1, 9))):
            self.assertEqual(rim_distance(spot(x, y), FAR), number(told), (x, y))
        self.assertEqual(rim_distance(spot(0, 0), patch_of((0, 4), (3, 0), (9, 9))), (144, 25))
        self.assertEqual(rim_distance(spot(2, 2), patch_of((0, 0), (9, 0), (0, 9))), (4, 1))

    def test_many(self):
        chance = random.Random(31)
        for _ in range(200):
            patch, point = random_patch(chance), random_spot(chance)
            x, y = floats(point)
            least = least_on_rim(patch, lambda a, b: ((a - x) ** 2 + (b - y) ** 2) ** 0.5)
            self.assertAlmostEqual(float(worth(rim_distance(point, patch))) ** 0.5, least, 7)


class NextLook(unittest.TestCase):
    def test_from_outside_within_and_the_rim(self):
        for seen, speed, patches, length, told in (
                (LOOK, ONE, (FAR,), TWO, (7, 1)), (LOOK, TWO, (FAR,), TWO, (9, 2)), (LOOK, ONE, (FAR, NEAR), TWO, (1, -4, 2, 1)), (LOOK, ONE, (FAR,), NOUGHT, (5, 1)),
                (LOOK, ONE, (NEAR,), NOUGHT, (1, 0, -2, 1)), (look(-3, 0, 0), ONE, (FAR,), (1, 3), (7, 3)), (look(0, 4, 5), ONE, (FAR,), TWO, (3, 1)),
                (look(0, 4, 5), (1, 3), (FAR,), NOUGHT, (3, 1)), (look(0, 3, 5), ONE, (FAR,), TWO, (2, 1)), (look(5, 3, 4), ONE, (FAR,), NOUGHT, (5, 1)),
                (look(0, 3, 5), ONE, (NEAR, FAR), TWO, (2, 1)), (LOOK, (3, 2), (NEAR,), (1, 2), moment_of(36, -36, -23, 1)), (LOOK, ONE, (FAR,) * 6, TWO, (7, 1))):
            self.assertEqual(next_look(seen, speed, patches, length), told)

    def test_the_first_of_the_nearest(self):
        left, right = square_patch(-3, -1, 2), square_patch(1, -1, 2)
        for patches, told in (((left, right), 0), ((right, left), 0), ((FAR, left, right), 1), ((FAR, right, left), 1), ((FAR,), 0), ((FAR, FAR), 0),
                              ((FAR, NEAR, square_patch(-2, -2, 1)), 1), ((FAR, NEAR, SPACE), 1), ((SPACE, FAR, FAR, FAR, FAR, right), 5)):
            for length in (NOUGHT, TWO):
                self.assertEqual(next_by(LOOK, ONE, patches, length), told)
                self.assertEqual(next_look(LOOK, ONE, patches, length), next_look(LOOK, ONE, (patches[told],), length))

    def test_many(self):
        chance = random.Random(32)
        for _ in range(150):
            patches = tuple([random_patch(chance, 4) for _ in range(chance.randint(1, 6))])
            seen, speed = (number(chance.randint(-3, 3), 2), random_spot(chance)), number(chance.randint(1, 5), 3)
            length = number(chance.randint(0, 4), 3)
            squares = [worth(rim_distance(seen[1], patch)) for patch in patches]
            self.assertEqual(next_by(seen, speed, patches, length), squares.index(min(squares)))
            told = float(worth(seen[0]) + worth(length)) + float(min(squares)) ** 0.5 / float(worth(speed))
            self.assertAlmostEqual(as_float(next_look(seen, speed, patches, length)), told, 9)


class Slipped(unittest.TestCase):
    def walk(self, seen, speed, patches, length, later):
        """That what slipped tells is a WAY that slips, walked anew."""
        told = slipped(seen, speed, patches, length, later)
        self.assertIs(shows_slipped(seen, speed, patches, length, later, told), True)
        n, way = told
        self.assertIn(n, range(len(patches)))
        self.assertLessEqual(len(way), 12)
        self.assertEqual([way[0], way[-1][0]], [seen, later])
        self.assertLessEqual(max(worth(square) for square in speeds(way)), worth(speed) ** 2)
        stays = during(region_of(patches[n]), way)
        unseen = [(low, high) for low, low_in, high, high_in in stays if low_in and high_in and compared(seen[0], low) < 0 and compared(high, later) < 0]
        self.assertTrue([low for low, high in unseen if compared(shifted(low, length), high) <= 0])
        # Each report within its stay, and what lies between reports beside it, by looking there.
        for moment, place in way:
            inside = [low for low, _, high, _ in stays if compared(low, moment) <= 0 <= compared(high, moment)]
            self.assertIs(bool(inside), lies_inside(patches[n], place))
        return told

    def test_right_behind_next_look_and_far_behind_it(self):
        for seen in (LOOK, look(0, 4, 5), look(1, 3, 5), look(Fraction(1, 3), 3, 4), look(-2, 5, 6), look(0, 6, 7), look(0, Fraction(7, 2), Fraction(14, 3)), look(0, 4, 4)):
            for patches in ((FAR,), (NEAR, FAR), (FAR, SPACE)):
                for length in (NOUGHT, TWO, (1, 7)):
                    for speed in (ONE, (3, 2), (1, 10 ** 6)):
                        due = next_look(seen, speed, patches, length)
                        low = worth(rounded_down(due, 60))
                        # A ROOT lies between low and what is one part more; of a FRACTION it may be low itself.
                        for more in (Fraction(1, 2 ** 30), 2 * TINY, Fraction(1), Fraction(10 ** 6)):
                            self.walk(seen, speed, patches, length, number(low + more))
                        for value in ((number(low - TINY), due) if len(due) == 4 else (number(low - TINY), number(low), due)):
                            self.assertEqual(refused(slipped, seen, speed, patches, length, value), ("TooSoon", value))
                            self.assertEqual(refused(shows_slipped, seen, speed, patches, length, value, None), ("TooSoon", value))

    def test_too_soon_at_and_below_next_look(self):
        for later, right in (((7, 1), False), (number(7 + TINY), True), (number(7 - TINY), False), ((0, 1), False), ((-5, 1), False)):
            told = refused(slipped, LOOK, ONE, (FAR,), TWO, later)
            self.assertIs(told[0] != "TooSoon", right)
        root = (1, -4, 2, 1)
        self.assertEqual(next_look(LOOK, ONE, (NEAR,), TWO), root)
        below = rounded_down(root, 64)
        self.assertEqual(refused(slipped, LOOK, ONE, (NEAR,), TWO, below), ("TooSoon", below))
        self.assertEqual(refused(slipped, LOOK, ONE, (NEAR,), TWO, root), ("TooSoon", root))
        self.assertEqual(refused(slipped, LOOK, ONE, (NEAR,), TWO, (1, 0, -99, 1)), ("TooSoon", (1, 0, -99, 1)))
        self.walk(LOOK, ONE, (NEAR,), TWO, number(worth(below) + Fraction(1, 2 ** 64)))
        self.walk(LOOK, ONE, (NEAR,), TWO, shifted(below, (1, 2 ** 64)))

    def test_many(self):
        chance = random.Random(33)
        for _ in range(150):
            patches = tuple([random_patch(chance, 4) for _ in range(chance.randint(1, 3))])
            place = random_spot(chance) if chance.random() < 0.7 else chance.choice(chance.choice(patches))
            seen, speed, length = (number(chance.randint(-3, 3), 2), place), number(chance.randint(1, 5), 3), number(chance.choice([0, 0, 1, 5]), 3)
            due = worth(rounded_down(next_look(seen, speed, patches, length), 40))
            self.walk(seen, speed, patches, length, number(due + Fraction(1, chance.choice([1, 10, 10 ** 6, 2 ** 39]))))

    def test_ways_near_to_the_told_one(self):
        later = (15, 2)
        n, way = slipped(LOOK, ONE, (FAR, SPACE), TWO, later)
        self.assertEqual([n, len(way)], [0, 4])

        def shown(value, length=TWO, patches=(FAR, SPACE), speed=ONE):
            return shows_slipped(LOOK, speed, patches, length, later, value)
        self.assertIs(shown((n, way)), True)
        for value in (way, (way, n), (n,), (n, way, None), [n, way], (1, way), (2, way), (-1, way), (False, way), (True, way), (n, list(way)), (n, way[:-1]), (n, way[1:]),
                      (n, (way[0], way[-1])), (None, way), ("0", way), ((0, 1), way), (n, ()), (n, None), (n, (*way, ((8, 1), way[-1][1])))):
            self.assertIs(shown(value), False, value)
        # A stay that is a little too short, one that is just so long, and one that is longer.
        for end, right in ((7, True), (7 - TINY, False), (Fraction(29, 4), True), (Fraction(36, 5), True)):
            told = (LOOK, look(5, 3, 4), look(end, 3, 4), (later, spot(3, Fraction(39, 10))))
            self.assertIs(shown((0, told)), right, end)
        # At the last moment it has to be out.
        for place, right in ((spot(3, 4), False), (spot(3, 4 - TINY), True), (spot(4, 4), False), (spot(Fraction(5, 2), 4), True)):
            self.assertIs(shown((0, (LOOK, look(5, 3, 4), look(7, 3, 4), (later, place)))), right, place)
        # Nowhere faster than speed, by any other spot, with other reports.
        self.assertIs(shown((0, (LOOK, look(5 - TINY, 3, 4), look(7, 3, 4), (later, spot(3, Fraction(39, 10)))))), False)
        self.assertIs(shown((0, (LOOK, look(5, 3 + TINY, 4), look(7, 3, 4), (later, spot(3, Fraction(39, 10)))))), False)
        self.assertIs(shown((0, (LOOK, look(Fraction(5, 2), Fraction(3, 2), 2), look(5, 3, 4), look(7, 3, 4), (later, spot(3, Fraction(39, 10)))))), True)
        self.assertIs(shown((0, (LOOK, look(5, 3, 4), look(6, 3, 4), look(7, 3, 4), look(Fraction(71, 10), 3, 4), (later, spot(3, Fraction(39, 10)))))), True)
        self.assertIs(shown((0, (LOOK, look(5, 3, 4), look(Fraction(11, 2), 3, Fraction(39, 10)), look(6, 3, 4), look(7, 3, 4), (later, spot(3, Fraction(39, 10)))))), False)
        self.assertIs(shown((0, (look(0, TINY, 0), *way[1:]))), False)
        self.assertIs(shown((0, (look(TINY, 0, 0), *way[1:]))), False)
        self.assertIs(shown((0, (*way[:-1], (number(worth(later) + TINY), way[-1][1])))), False)
        self.assertIs(shown((0, way), (0, 1)), True)
        self.assertIs(shown((0, way), (19, 10)), True)
        self.assertEqual(refused(shown, (0, way), speed=(9, 10)), ("TooSoon", later))
        self.assertIs(shown((1, way), patches=(SPACE, FAR)), True)
        for value in NEVER:
            self.assertIs(shown(value), False)
            self.assertIs(shown((0, value)), False)
            self.assertIs(shown((value, way)), False)

    def test_more_than_twelve_reports_are_none(self):
        for many, right in ((12, True), (13, False)):
            extra = [look(Fraction(5 * n, many - 3), Fraction(3 * n, many - 3), Fraction(4 * n, many - 3)) for n in range(1, many - 3)]
            way = (LOOK, *extra, look(5, 3, 4), look(7, 3, 4), look(Fraction(15, 2), 3, Fraction(39, 10)))
            self.assertEqual(len(way), many)
            self.assertIs(shows_slipped(LOOK, ONE, (FAR,), TWO, (15, 2), (0, way)), right)

    def test_the_stay_that_the_look_saw_does_not_count(self):
        seen, later = look(0, 3, 5), (11, 1)
        stays_on = (seen, look(8, 3, 5), (later, spot(2, 5)))
        comes_back = (seen, look(1, 2, 5), look(2, 3, 5), look(4, 3, 5), (later, spot(2, 5)))
        too_late = (seen, look(8, 2, 5), look(9, 3, 5), (later, spot(3, 5)))
        for way, right in ((stays_on, False), (comes_back, True), (too_late, False)):
            self.assertIs(shows_slipped(seen, ONE, (FAR,), TWO, later, (0, way)), right, way_text(way))
        self.walk(seen, ONE, (FAR,), TWO, later)

    def test_up_to_next_look_no_stay_goes_unseen(self):
        chance = random.Random(34)
        seen_any = 0
        for _ in range(300):
            way = random_way(chance, 8)
            patches = tuple([random_patch(chance, 3) for _ in range(chance.randint(1, 3))])
            speed = number(Fraction(int(max(worth(square) for square in speeds(way)) ** 1 + 1)))
            length = number(chance.choice([0, 1, 2]), 4)
            due = next_look(way[0], speed, patches, length)
            for patch in patches:
                for low, _, high, _ in during(region_of(patch), way):
                    if compared(low, way[0][0]) > 0 and compared(shifted(low, length), high) <= 0:
                        # Whoever looks at next_look, or at any time ahead of it, sees that it isn't over.
                        self.assertGreaterEqual(compared(high, due), 0)
                        seen_any += 1
        self.assertGreater(seen_any, 30)


class Plan(unittest.TestCase):
    WAY = read_way("0 0 5 ; 8 8 5")

    def test_steps(self):
        for step, told in (((1, 1), (0, 5, 7)), (TWO, (0, 4, 6, 8)), ((3, 2), (0, Fraction(9, 2), 6)), ((1, 25), (0, 5, 7))):
            self.assertEqual(self.check(self.WAY, ONE, (FAR,), TWO, step), tuple([number(n) for n in told]))
        for step in ((2, 7), (5, 3), (3, 7)):
            self.check(self.WAY, ONE, (FAR, NEAR), TWO, step)

    def check(self, way, speed, patches, length, step):
        """That each is the latest moment of whole steps not above next_look of the one ahead, and each stay has one in it."""
        told = plan(way, speed, patches, length, step)
        self.assertEqual(told[0], way[0][0])
        whole = [worth(way[0][0]) + n * worth(step) for n in range(202)]
        for n, moment in enumerate(told):
            self.assertIn(worth(moment), whole)
            due = next_look((moment, at(way, moment)), speed, patches, length)
            behind = whole.index(worth(moment))
            late = max(place for place in range(behind, len(whole)) if compared(number(whole[place]), due) <= 0) if compared(
                number(whole[-1]), due) > 0 else len(whole)
            if n + 1 < len(told):
                self.assertEqual(worth(told[n + 1]), whole[late])
            else:
                self.assertTrue(late == len(whole) or whole[late] > worth(way[-1][0]))
        for patch in patches:
            for low, _, high, _ in during(region_of(patch), way):
                if compared(shifted(low, length), high) <= 0 and high != way[-1][0]:
                    self.assertTrue([moment for moment in told if compared(low, moment) <= 0 <= compared(high, moment)], (way_text(way), patch))
        return told

    def test_ends_between_two_steps_and_at_one(self):
        for text, told in (("0 0 5 ; 7 7 5", (0, 5, 7)), ("0 0 5 ; 27/4 27/4 5", (0, 5)), ("0 0 5 ; 29/4 29/4 5", (0, 5, 7)), ("0 0 5 ; 5 5 5", (0, 5)),
                           ("0 0 5 ; 9/2 9/2 5", (0,)), ("-1/2 -1/2 5 ; 1 1 5", (-1,))):
            way = read_way(text)
            begin = worth(way[0][0])
            told = [n for n in told] if begin == 0 else [begin]
            self.assertEqual(plan(way, ONE, (FAR,), TWO, ONE), tuple([number(n) for n in told]))

    def test_200_and_201_steps(self):
        way = read_way("0 0 5 ; 8 8 5")
        for step, right in (((1, 25), True), ((8, 201), False), ((8, 199), True), (number(Fraction(1, 25) - TINY), False)):
            told = refused(plan, way, ONE, (FAR,), TWO, step)
            self.assertIs(told != ("BadStep", step), right, step)
        self.assertEqual(len(plan(read_way("0 4 4 ; 1 5 4 ; 199 5 4 ; 200 4 4"), ONE, (FAR,), ONE, ONE)), 201)
        self.assertEqual(refused(plan, read_way("0 4 4 ; 201 5 4"), ONE, (FAR,), ONE, ONE), ("BadStep", ONE))
        self.assertEqual(refused(plan, read_way("0 4 4 ; 1 5 4 ; 200000001/1000000 5 4"), ONE, (FAR,), ONE, ONE), ("BadStep", ONE))

    def test_steps_are_counted_from_the_first_moment(self):
        for text, right in (("1000 4 4 ; 1010 5 4", True), ("-1010 4 4 ; -1000 5 4", True), ("-150 4 4 ; 50 5 4", True), ("-150 4 4 ; 51 5 4", False), ("1/2 4 4 ; 401/2 5 4", True),
                            ("1/2 4 4 ; 201 5 4", False)):
            way = read_way(text)
            told = refused(plan, way, ONE, (FAR,), ONE, ONE)
            self.assertIs(told != ("BadStep", ONE), right, text)
            if right:
                self.assertEqual(told, tuple([number(worth(way[0][0]) + n) for n in range(len(told))]))
        way = read_way("1001/2 0 5 ; 1017/2 8 5")
        self.assertEqual(plan(way, ONE, (FAR,), TWO, ONE), tuple([number(Fraction(1001, 2) + n) for n in (0, 5, 7)]))

    def test_step_and_length(self):
        for step, length, right in ((TWO, TWO, True), (number(2 + TINY), TWO, False), ((1, 2), (1, 2), True), ((1, 2), NOUGHT, False), (NOUGHT, NOUGHT, False), (NOUGHT, TWO, False)):
            self.assertIs(refused(plan, self.WAY, ONE, (FAR,), length, step) != ("BadStep", step), right, (step, length))

    def test_just_as_fast_as_speed_and_faster(self):
        way = read_way("0 0 0 ; 1 3 4 ; 2 3 9 ; 3 9 17 ; 4 9 9")
        for speed, told in (((5, 1), ("TooFast", 2)), (number(5 - TINY), ("TooFast", 0)), ((9, 1), ("TooFast", 2)), ((10, 1), None), ((4, 1), ("TooFast", 0)),
                            (number(10 - TINY), ("TooFast", 2))):
            found = refused(plan, way, speed, (FAR,), TWO, ONE)
            self.assertEqual(found if told else None, told)
        self.assertEqual(refused(plan, read_way("0 0 0 ; 1 1 0 ; 2 1 0 ; 3 4 0"), TWO, (FAR,), TWO, ONE), ("TooFast", 2))
        # It comes ahead of patches, length and step, and behind the way and the speed.
        self.assertEqual(refused(plan, way, ONE, (), (-1, 1), None), ("TooFast", 0))
        self.assertEqual(refused(plan, way, (0, 1), (), (-1, 1), None), ("BadSpeed", (0, 1)))
        self.assertEqual(refused(plan, way, (10, 1), (), (-1, 1), None), ("BadPatches", ()))
        self.assertEqual(refused(plan, way, (10, 1), (FAR,), (-1, 1), None), ("BadLength", (-1, 1)))
        self.assertEqual(refused(plan, way, (10, 1), (FAR,), TWO, None), ("BadStep", None))

    def test_no_row_of_looks_is_shorter(self):
        chance = random.Random(36)
        for _ in range(25):
            way = random_way(chance, 5)
            patches = tuple([random_patch(chance, 3) for _ in range(chance.randint(1, 2))])
            speed, length, step = number(int(max(worth(square) for square in speeds(way))) + 1), (1, 1), (1, 2)
            told = plan(way, speed, patches, length, step)
            whole, moment = [], worth(way[0][0])
            while moment <= worth(way[-1][0]):
                whole.append(moment)
                moment += Fraction(1, 2)
            # The fewest looks with which one comes to each moment, and from where one needs no further one.
            fewest, enough = {0: 1}, None
            for n, moment in enumerate(whole):
                due = worth(rounded_down(next_look((number(moment), at(way, number(moment))), speed, patches, length), 1))
                for m in range(n + 1, len(whole)):
                    if whole[m] <= due and n in fewest:
                        fewest[m] = min(fewest.get(m, 999), fewest[n] + 1)
                if n in fewest and due > worth(way[-1][0]):
                    enough = fewest[n] if enough is None else min(enough, fewest[n])
            self.assertEqual(len(told), enough)

    def test_many(self):
        chance = random.Random(35)
        stays = 0
        for _ in range(100):
            way = random_way(chance, 8)
            patches = tuple([random_patch(chance, 3) for _ in range(chance.randint(1, 3))])
            most = max(worth(square) for square in speeds(way))
            speed = number(Fraction(int(float(most) ** 0.5 * 8) + 1, 8))
            length = number(chance.choice([1, 2, 4]), 4)
            step = number(worth(length) / chance.choice([1, 1, 2, 3]))
            told = self.check(way, speed, patches, length, step)
            stays += len(told) > 1
        self.assertGreater(stays, 30)

    def test_a_part_of_the_way_begins_anew(self):
        told = plan(part(self.WAY, (5, 1), (8, 1)), ONE, (FAR,), TWO, ONE)
        self.assertEqual(told, ((5, 1), (7, 1)))


if __name__ == "__main__":
    unittest.main()
