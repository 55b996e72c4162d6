"""Point 4, and guarantee (a): MOMENTS, each in its one form, compared exactly."""
import random
import unittest
from decimal import Decimal, localcontext
from fractions import Fraction
from math import gcd, isqrt

from crossingstold.moments import (
    ascending, between, compared, moment_of, moment_text, read_moment, rounded_down, scaled, shifted, sign_at)
from tests.helpers import DIGITS, decimal_of, number, order_of, refused

LOW, HIGH = (1, 0, -2, -1), (1, 0, -2, 1)


def random_moments(seed, many, most=9):
    """So many MOMENTS, FRACTIONS and ROOTS, some of them the two numbers of one equation."""
    chance, told = random.Random(seed), []
    while len(told) < many:
        if chance.random() < 0.3:
            told.append(number(chance.randint(-most, most), chance.randint(1, most)))
            continue
        values = [chance.randint(-most, most) for _ in range(3)]
        if values[:2] != [0, 0]:
            sides = [-1, 1] if chance.random() < 0.3 else [chance.choice([-1, 1])]
            told += [moment for moment in [moment_of(*values, side) for side in sides] if moment is not None]
    return told[:many]


class Solving(unittest.TestCase):
    def test_printed_and_plain_ones(self):
        for values, told in {
                (1, 0, -2, 1): HIGH, (1, 0, -2, -1): LOW, (-1, 0, 2, 1): HIGH, (-1, 0, 2, -1): LOW,
                (-3, 0, 6, 1): HIGH, (-3, 0, 6, -1): LOW, (6, 0, -12, 1): HIGH, (2, 4, -6, 1): (1, 1),
                (2, 4, -6, -1): (-3, 1), (-2, -4, 6, 1): (1, 1), (-2, -4, 6, -1): (-3, 1), (1, 0, 1, 1): None,
                (-1, 0, -1, -1): None, (3, 1, 1, -1): None, (0, 4, -6, 1): (3, 2), (0, 4, -6, -1): (3, 2),
                (0, -4, 6, 1): (3, 2), (0, -4, -6, 1): (-3, 2), (0, 7, 0, 1): (0, 1), (0, -7, 0, -1): (0, 1),
                (5, 0, 0, 1): (0, 1), (-5, 0, 0, -1): (0, 1), (4, -12, 9, 1): (3, 2), (4, -12, 9, -1): (3, 2),
                (-4, 12, -9, 1): (3, 2), (6, -5, 1, -1): (1, 3), (6, -5, 1, 1): (1, 2), (-6, 5, -1, 1): (1, 2),
                (1, -2, 0, 1): (2, 1), (1, -2, 0, -1): (0, 1), (12, -18, 0, 1): (3, 2), (4, -2, -1, 1): (4, -2, -1, 1),
                (-8, 4, 2, 1): (4, -2, -1, 1), (-8, 4, 2, -1): (4, -2, -1, -1)}.items():
            self.assertEqual(moment_of(*values), told, values)

    def test_fractions_and_roots_are_no_numbers_of_an_equation(self):
        for values in (((1, 1), (0, 1), (-2, 1)), ((1, 2), 0, -2), (1, (0, 1), -2), (1, 0, (-2, 1)), (1, 0, HIGH)):
            self.assertEqual(refused(moment_of, *values, 1), ("BadEquation", values))
            self.assertEqual(refused(sign_at, *values, HIGH), ("BadEquation", values))

    def test_all_small_equations(self):
        for a in range(-4, 5):
            for b in range(-5, 6):
                for c in range(-6, 7):
                    if a or b:
                        self.check(a, b, c)

    def check(self, a, b, c):
        low, high = moment_of(a, b, c, -1), moment_of(a, b, c, 1)
        under = b * b - 4 * a * c
        if a and under < 0:
            self.assertEqual((low, high), (None, None))
            return
        if a == 0 or under == 0:
            self.assertEqual(low, high)
        else:
            self.assertEqual(order_of(low, high), -1)
        for moment, side in ((low, -1), (high, 1)):
            self.assertEqual(sign_at(a, b, c, moment), 0)
            if len(moment) == 2:
                top, bottom = moment
                self.assertEqual(a * top * top + b * top * bottom + c * bottom * bottom, 0)
                self.assertTrue(bottom >= 1 and gcd(top, bottom) == 1)
            else:
                self.assertNotEqual(isqrt(under) ** 2, under)
                self.assertEqual(moment[3], side)
                self.assertTrue(moment[0] >= 1 and gcd(*moment[:3]) == 1)
                self.assertEqual((moment[0] * b, moment[0] * c), (moment[1] * a, moment[2] * a))

    def test_great_numbers(self):
        most = 10 ** 9 - 1
        self.assertEqual(moment_of(most, 0, -most * most * most, 1), (most, 1))
        self.assertEqual(moment_of(most, most, -most, 1), (1, 1, -1, 1))
        self.assertEqual(moment_of(-most, most - 1, 1, -1), (-1, most))
        self.assertEqual(moment_of(most, 1, -most, -1), (most, 1, -most, -1))


class Comparing(unittest.TestCase):
    def test_two_numbers_of_one_equation(self):
        for a, b, c in ((1, 0, -2), (1, -1, -1), (3, 8, 1), (1000, -2000, 999)):
            low, high = moment_of(a, b, c, -1), moment_of(a, b, c, 1)
            self.assertEqual([compared(low, high), compared(high, low), compared(low, low)], [-1, 1, 0])

    def test_hard_by_a_fraction(self):
        # These fractions come ever nearer to the root of 2, from below and from above in turn.
        top, bottom = 1, 1
        for turn in range(60):
            self.assertEqual(compared((top, bottom), HIGH), (-1, 1)[turn % 2])
            self.assertEqual(compared(HIGH, (top, bottom)), (1, -1)[turn % 2])
            self.assertEqual(compared((-top, bottom), LOW), (1, -1)[turn % 2])
            top, bottom = top + 2 * bottom, top + bottom

    def test_hard_by_another_root(self):
        root, other = moment_of(10 ** 8, 1, -2 * 10 ** 8, 1), moment_of(10 ** 8, 1, -2 * 10 ** 8 - 1, 1)
        self.assertEqual([compared(root, other), compared(other, root)], [-1, 1])
        least = (1, 10 ** 200)
        for moment in (HIGH, LOW, (7, 3), root):
            near = shifted(moment, least)
            self.assertEqual([compared(moment, near), compared(near, moment), compared(near, near)], [-1, 1, 0])
            self.assertEqual(compared(shifted(near, (-1, 10 ** 200)), moment), 0)

    def test_roots_of_unlike_equations(self):
        roots = [(1, 0, -2, 1), (1, 0, -3, 1), (1, -1, -1, 1), (1, 0, -5, 1), (1, -1, -3, 1), (1, -4, 1, 1)]
        for at, one in enumerate(roots):
            for to, other in enumerate(roots):
                self.assertEqual(compared(one, other), order_of(one, other), (one, other))

    def test_many(self):
        for seed in range(4):
            some = random_moments(seed, 60, 3 + 30 * seed)
            for one in some:
                for other in some:
                    self.assertEqual(compared(one, other), order_of(one, other), (one, other))
                    self.assertEqual(compared(one, other) == 0, one == other)

    def test_great_fractions(self):
        most = 999999999
        self.assertEqual(compared((most, most - 1), (most - 1, most - 2)), -1)
        self.assertEqual(compared((-most, 1), (most, 1)), -1)


class Sorting(unittest.TestCase):
    def test_none_one_and_doubled_ones(self):
        self.assertEqual(ascending(()), ())
        self.assertEqual(ascending((HIGH,)), (HIGH,))
        self.assertEqual(ascending((HIGH, HIGH, LOW, HIGH, (0, 1), LOW)), (LOW, (0, 1), HIGH))
        self.assertEqual(ascending(((3, 2), (1, 1), (10, 7), (-5, 1), HIGH)), ((-5, 1), (1, 1), HIGH, (10, 7), (3, 2)))

    def test_sixty_and_sixty_one(self):
        sixty = tuple([(top, 1) for top in range(60, 0, -1)])
        self.assertEqual(ascending(sixty), sixty[::-1])
        self.assertEqual(ascending((HIGH,) * 60), (HIGH,))
        for wrong in (sixty + ((1, 1),), (HIGH,) * 61, sixty[:-1] + ((2, 2),), [*sixty], ((1, 1), None), ((1, 1),) * 61):
            with self.assertRaises(ValueError) as caught:
                ascending(wrong)
            self.assertEqual(type(caught.exception).__name__, "BadMoments")
            self.assertIs(caught.exception.value, wrong)

    def test_many(self):
        for seed in range(20):
            some = tuple(random_moments(seed + 50, 60))
            told = ascending(some)
            self.assertEqual(set(told), set(some))
            self.assertEqual(len(told), len(set(told)))
            for one, other in zip(told, told[1:]):
                self.assertEqual(order_of(one, other), -1)


class Moving(unittest.TestCase):
    def test_plain_ones(self):
        self.assertEqual(shifted(HIGH, (1, 2)), (4, -4, -7, 1))
        self.assertEqual(shifted(HIGH, (0, 1)), HIGH)
        self.assertEqual(shifted(LOW, (-3, 1)), (1, 6, 7, -1))
        self.assertEqual(shifted((1, 3), (-1, 3)), (0, 1))
        self.assertEqual(shifted((1, 3), (1, 6)), (1, 2))
        self.assertEqual(scaled(HIGH, (0, 1)), (0, 1))
        self.assertEqual(scaled((3, 4), (0, 1)), (0, 1))
        self.assertEqual(scaled(HIGH, (1, 1)), HIGH)
        self.assertEqual(scaled(HIGH, (-1, 1)), LOW)
        self.assertEqual(scaled(LOW, (-1, 1)), HIGH)
        self.assertEqual(scaled(HIGH, (-3, 1)), (1, 0, -18, -1))
        self.assertEqual(scaled(HIGH, (1, 2)), (2, 0, -1, 1))
        self.assertEqual(scaled((1, -1, -1, 1), (-2, 3)), (9, 6, -4, -1))
        self.assertEqual(scaled((-3, 4), (-2, 3)), (1, 2))

    def test_many_by_decimals(self):
        chance = random.Random(7)
        for moment in random_moments(8, 150):
            by = number(chance.randint(-9, 9), chance.randint(1, 9))
            for told, wanted in ((shifted(moment, by), decimal_of(moment) + decimal_of(by)),
                                 (scaled(moment, by), decimal_of(moment) * decimal_of(by))):
                self.assertEqual(moment_text(told), moment_text(read_moment(moment_text(told))))
                with localcontext() as context:
                    context.prec = DIGITS
                    self.assertLess(abs(decimal_of(told) - wanted), Decimal(10) ** -20)

    def test_there_and_back(self):
        for moment in random_moments(9, 60):
            told = moment
            steps = [number(top, bottom) for top, bottom in ((3, 7), (-5, 2), (1, 9), (-8, 1), (999999999, 999999998))]
            for step in steps:
                told = scaled(shifted(told, step), step)
            for top, bottom in reversed(steps):
                told = shifted(scaled(told, number(bottom, top)), (-top, bottom))
            self.assertEqual(told, moment)

    def test_many_steps_with_numbers_that_grow_great(self):
        # Python tells and reads no integer of more than 4300 figures by itself.
        bottoms = [10 ** 9 - 1 - step for step in range(300)]
        for moment in (HIGH, LOW, (1, 1)):
            told = moment
            for bottom in bottoms:
                told = shifted(told, (1, bottom))
            text = moment_text(told)
            self.assertGreater(len(text), 5000 if len(moment) == 4 else 2000)
            self.assertEqual(read_moment(text), told)
            self.assertEqual(compared(moment, told), -1)
            for bottom in bottoms:
                told = shifted(told, (-1, bottom))
            self.assertEqual(told, moment)

    def test_many_scalings_there_and_back(self):
        factors = [(top, 10 ** 9 - 1 - top) for top in range(10 ** 8 + 1, 10 ** 8 + 400, 2) if top % 3]
        for moment in (HIGH, (1, -1, -1, -1), (-5, 7)):
            told = moment
            for top, bottom in factors:
                told = scaled(told, number(-top, bottom))
            self.assertEqual(compared(told, (0, 1)), compared(moment, (0, 1)) * (-1) ** len(factors))
            self.assertEqual(read_moment(moment_text(told)), told)
            for top, bottom in factors:
                told = scaled(told, number(-bottom, top))
            self.assertEqual(told, moment)

    def test_texts_of_great_numbers(self):
        for figures in (1, 63, 64, 65, 127, 128, 129, 640, 4300):
            for top in (10 ** figures, 10 ** figures - 1, 7 * 10 ** (figures - 1) + 1):
                self.assertEqual(moment_text((top, 1)), str(top) if top < 10 ** 4300 else "1" + "0" * 4300)
                self.assertEqual(read_moment("-" + moment_text((top, 1))), (-top, 1))
        great = "7" + "0" * 9000 + "1"
        self.assertEqual(moment_text(read_moment("-" + great)), "-" + great)
        self.assertEqual(read_moment(great), (7 * 10 ** 9001 + 1, 1))


class Rounding(unittest.TestCase):
    def test_plain_ones(self):
        for moment, n, told in (
                (HIGH, 0, (1, 1)), (HIGH, 3, (11, 8)), (LOW, 1, (-3, 2)), (LOW, 0, (-2, 1)), ((7, 2), 0, (3, 1)),
                ((-7, 2), 0, (-4, 1)), ((-7, 2), 1, (-7, 2)), ((5, 1), 64, (5, 1)), ((1, 3), 2, (1, 4)),
                ((-1, 3), 2, (-1, 2)), ((0, 1), 0, (0, 1)), ((3, 4), 1, (1, 2)), ((3, 4), 2, (3, 4))):
            self.assertEqual(rounded_down(moment, n), told)

    def test_bounds_of_n(self):
        top, bottom = rounded_down(HIGH, 64)
        self.assertEqual(Fraction(top, bottom), Fraction(isqrt(2 << 128), 1 << 64))
        for wrong in (65, -1, 1000, True, False, None, "3", (3, 1), (3,)):
            with self.assertRaises(ValueError) as caught:
                rounded_down(HIGH, wrong)
            self.assertEqual((type(caught.exception).__name__, caught.exception.value), ("BadNumber", wrong))

    def test_many(self):
        for moment in random_moments(10, 120):
            for n in (0, 1, 2, 7, 33, 64):
                told = rounded_down(moment, n)
                self.assertEqual((1 << n) % told[1], 0)
                self.assertEqual(gcd(*told), 1)
                self.assertIn(compared(told, moment), (-1, 0))
                self.assertEqual(compared(shifted(told, (1, 1 << n)), moment), 1)


class Between(unittest.TestCase):
    def test_plain_ones(self):
        for one, other, told in (
                ((7, 5), HIGH, (45, 32)), ((1, 3), (7, 2), (1, 1)), ((0, 1), (1, 1), (1, 2)), ((0, 1), (2, 1), (1, 1)),
                ((-1, 1), (0, 1), (-1, 2)), ((-1, 3), (1, 3), (0, 1)), (LOW, HIGH, (-1, 1)), ((-5, 1), (5, 1), (-4, 1)),
                ((0, 1), (1, 1000), (1, 1024)), ((0, 1), (1, 1024), (1, 2048)), ((1, 2), (1, 1), (3, 4)),
                ((-1, 1), (-1, 2), (-3, 4)), ((-1, 8), (1, 16), (0, 1)), (LOW, (-1, 1), (-5, 4)), ((1, 1), HIGH, (5, 4))):
            self.assertEqual(between(one, other), told)

    def test_many(self):
        some = ascending(tuple(random_moments(11, 60, 30)))
        for one, other in [*zip(some, some[1:]), *zip(some, some[7:])]:
            self.check(one, other)

    def check(self, one, other):
        top, bottom = between(one, other)
        self.assertEqual(bottom & (bottom - 1), 0)
        n = bottom.bit_length() - 1
        parts = 0
        while True:
            with localcontext() as context:
                context.prec = DIGITS
                least = int((decimal_of(one) * 2 ** parts).to_integral_value("ROUND_FLOOR")) + 1
            if order_of(number(least, 2 ** parts), other) < 0:
                break
            parts += 1
        self.assertEqual((top, bottom), number(least, 2 ** parts))
        self.assertEqual(n, parts)

    def test_hard_by_one_another(self):
        for moment in (HIGH, LOW, (1, 3), (-5, 8), (0, 1)):
            for other in (shifted(moment, (1, 10 ** 60)), shifted(moment, (1, 10 ** 60 + 7))):
                self.check(moment, other)
        self.check((-1, 10 ** 50), (1, 10 ** 50))
        self.assertEqual(between((-1, 10 ** 50), (1, 10 ** 50)), (0, 1))
        near = shifted(HIGH, (1, 2 ** 3000))
        top, bottom = between(HIGH, near)
        self.assertEqual([compared(HIGH, (top, bottom)), compared((top, bottom), near)], [-1, -1])
        self.assertIn(bottom, (2 ** 3000, 2 ** 3001))

    def test_what_lies_between_may_be_handed_in_again(self):
        low, high = (1, 1), HIGH
        for _ in range(40):
            low = between(low, high)
            self.assertEqual([compared(low, high), len(low)], [-1, 2])

    def test_not_below(self):
        for one, other in ((HIGH, (1, 1)), (HIGH, HIGH), (HIGH, LOW), ((1, 2), (1, 3)), ((1, 2), (1, 2))):
            self.assertEqual(refused(between, one, other), ("NotBelow", (one, other)))


class Signs(unittest.TestCase):
    def test_plain_ones(self):
        for values, told in {
                (0, 0, 0, HIGH): 0, (0, 0, 0, (1, 2)): 0, (0, 0, -3, HIGH): -1, (0, 0, 3, LOW): 1, (1, 0, -2, LOW): 0,
                (-7, 0, 14, HIGH): 0, (0, 1, 0, LOW): -1, (0, 1, 0, HIGH): 1, (0, 2, -3, (3, 2)): 0, (4, -12, 9, (3, 2)): 0,
                (4, -12, 9, HIGH): 1, (0, 1000, -1414, HIGH): 1, (0, 1000, -1415, HIGH): -1, (1, 0, -2, (7, 5)): -1,
                (1, 0, -2, (3, 2)): 1, (2, 0, -4, (1, -1, -1, 1)): 1, (1, -1, -1, (1, -1, -1, -1)): 0}.items():
            self.assertEqual(sign_at(*values), told, values)

    def test_many(self):
        chance = random.Random(12)
        for moment in random_moments(13, 120):
            for _ in range(20):
                a, b, c = [chance.randint(-9, 9) for _ in range(3)]
                with localcontext() as context:
                    context.prec = DIGITS
                    t = decimal_of(moment)
                    worth = a * t * t + b * t + c
                    told = 0 if abs(worth) < Decimal(10) ** -150 else 1 if worth > 0 else -1
                self.assertEqual(sign_at(a, b, c, moment), told)
            if len(moment) == 4:
                for times in (-3, 0, 1, 10 ** 9):
                    self.assertEqual(sign_at(*[times * n for n in moment[:3]], moment), 0)


class Texts(unittest.TestCase):
    def test_there_and_back(self):
        for moment in [*random_moments(14, 200), *random_moments(15, 100, 10 ** 9 - 1), (0, 1), (-1, 1), (1, 10 ** 9 - 1)]:
            self.assertEqual(read_moment(moment_text(moment)), moment)
        for text in ("0", "7", "-7", "1/2", "-1/2", "10/3", "root 1 0 -2 high", "root 1 0 -2 low", "root 4 -4 -7 high"):
            self.assertEqual(moment_text(read_moment(text)), text)
        self.assertEqual([read_moment("3"), read_moment("-1/2")], [(3, 1), (-1, 2)])
        self.assertEqual(read_moment("root 4 -4 -7 low"), (4, -4, -7, -1))

    def test_nearly_texts(self):
        for text in (
                "", " ", "+1", "01", "-0", "00", "-01", "1 ", " 1", "1\n", "\n1", "--1", "- 1", "1.0", "1_0", "1e3", "0x1",
                "2/4", "3/1", "0/1", "0/2", "1/0", "0/0", "1/-2", "-1/-2", "1/+2", "1/02", "01/2", "-0/3", "1 /2", "1/ 2",
                "1/2/3", "1/", "/2", "/", "1//2", "(1, 2)", "one", "root", "root ", "root 1 0 -2", "root 1 0 -2 ",
                "root 1 0 -2 High", "root 1 0 -2 higher", "root 1 0 -2  high", "root  1 0 -2 high", " root 1 0 -2 high",
                "root 1 0 -2 high ", "root 1 0 -2 high\n", "Root 1 0 -2 high", "1 0 -2 high", "root 1 0 -2 1",
                "root 1 0 -2 high low", "root 2 0 -4 high", "root -1 0 2 high", "root 1 0 -4 high", "root 1 0 2 high",
                "root 1 0 0 low", "root 0 1 -2 low", "root 01 0 -2 high", "root 1 -0 -2 high", "root +1 0 -2 high",
                "root 1/1 0 -2 high", "root 1/2 0 -1 high", "root 1 0/1 -2 high", "root 1 0 -4/2 high", "root 4 -12 9 low",
                "root 1 0 -2 mid", "root 1\t0 -2 high", "root,1,0,-2,high", "[1, 2]", "1;2", "1,2", "'1'"):
            self.assertEqual(refused(read_moment, text), ("BadMoment", text))
