"""Point 14: strips of STRETCHES, and sights of REGIONS."""
import random
import unittest
from fractions import Fraction

from crossingstold.moments import moment_of
from crossingstold.pictures import sight, strip
from crossingstold.regions import is_in, read_region
from crossingstold.stretches import both, has, read_stretches, stretches_of
from tests.helpers import number, order_of, random_region, refused, spot

HALF = ("half", 1, 0, 0)


def strip_of(text, begin, step, many):
    """What strip tells of the STRETCHES whose text this is."""
    return strip(read_stretches(text), number(begin), number(step), many)


class Strip(unittest.TestCase):
    def test_ends_in_and_out_at_the_ends_of_a_span(self):
        for text, told in (("[0, 1)", ".#.."), ("[0, 1]", ".#+."), ("(0, 1)", ".+.."), ("(0, 1]", ".++."), ("[-1, 2]", "###+"), ("(-1, 2)", "+##."), ("[0, 2)", ".##."),
                           ("[0, 1); (1, 2)", ".#+."), ("[0, 1/2); (1/2, 1)", ".+.."), ("[0, 0]", ".+.."), ("[1, 1]", "..+."), ("[1/2, 1/2]", ".+.."), ("(0, 1); (1, 2)", ".++."),
                           ("[-1, 0); (0, 1)", "#+.."), ("", "...."), ("[-9, 9]", "####"), ("(-9, 9)", "####"), ("[0, 1/1000000)", ".+.."),
                           ("[999999/1000000, 1)", ".+.."), ("(1, 2)", "..+."), ("[1, 2)", "..#."), ("[1, 2]", "..#+"), ("[3, 4]", "...."), ("[-3, -1)", "...."), ("[-3, -1]", "+...")):
            self.assertEqual(strip_of(text, -1, 1, 4), told, text)

    def test_roots(self):
        self.assertEqual(strip_of("[root 1 0 -2 low, root 1 0 -2 high]", -2, 1, 4), "+##+")
        self.assertEqual(strip_of("(root 1 0 -2 high, 2)", 0, Fraction(1, 2), 5), "..+#.")
        self.assertEqual(strip_of("[root 1 0 -2 high, root 1 0 -2 high]", 1, Fraction(1, 4), 4), ".+..")
        self.assertEqual(strip_of("[0, root 1 0 -2 high); (root 1 0 -2 high, 2]", 0, Fraction(1, 2), 4), "##+#")
        told = strip(((moment_of(1, 0, -2, -1), True, moment_of(1, 0, -2, 1), False),), number(-1414213562, 10 ** 9), (1, 10 ** 9), 3)
        self.assertEqual(told, "###")
        told = strip(((moment_of(1, 0, -2, -1), True, moment_of(1, 0, -2, 1), False),), number(-1414213564, 10 ** 9), (1, 10 ** 9), 3)
        self.assertEqual(told, ".+#")

    def test_ahead_of_all_and_behind_all(self):
        for begin in (-100, 100):
            self.assertEqual(strip_of("[-9, 9]", begin, 1, 9), "." * 9)
        self.assertEqual(strip_of("[-100, 300]", -100, 3, 120), "#" * 120)

    def test_many(self):
        self.assertEqual(strip_of("[0, 1)", 0, 1, 1), "#")
        told = strip_of("[0, 1)", 0, Fraction(1, 100), 120)
        self.assertEqual(told, "#" * 100 + "." * 20)
        for many in (0, 121, -1, 10 ** 8, True, None, "1", (1, 1)):
            self.assertEqual(refused(strip, (), (0, 1), (1, 1), many), ("BadNumber", many))

    def test_steps_and_begins(self):
        for step in ((0, 1), (-1, 1), (-1, 2), 1, (2, 2), (1, 0, -2, 1), None):
            self.assertEqual(refused(strip, (), (0, 1), step, 1), ("BadLength", step))
        for begin in (0, (2, 2), (1, 0, -2, 1), None, "0"):
            self.assertEqual(refused(strip, (), begin, (1, 1), 1), ("BadMoment", begin))

    def test_the_first_error_is_told(self):
        self.assertEqual(refused(strip, None, None, None, None), ("BadStretches", None))
        self.assertEqual(refused(strip, (), None, None, None), ("BadMoment", None))
        self.assertEqual(refused(strip, (), (0, 1), None, None), ("BadLength", None))
        self.assertEqual(refused(strip, (), (0, 1), (1, 1), None), ("BadNumber", None))

    def test_against_what_is_held_span_by_span(self):
        chance = random.Random(51)
        signs = set()
        for _ in range(200):
            rows = []
            for _ in range(chance.randint(0, 4)):
                ends = [chance.choice([number(chance.randint(-8, 8), chance.choice([1, 2, 4])), moment_of(1, 0, -chance.choice([2, 3, 5]), chance.choice([-1, 1]))]) for _ in range(2)]
                if order_of(*ends) > 0:
                    ends.reverse()
                same = ends[0] == ends[1]
                rows.append((ends[0], same or chance.random() < 0.5, ends[1], same or chance.random() < 0.5))
            stretches = stretches_of(tuple(rows))
            begin, step, many = Fraction(chance.randint(-8, 4), 2), Fraction(chance.randint(1, 4), 2), chance.randint(1, 9)
            told = strip(stretches, number(begin), number(step), many)
            self.assertEqual(len(told), many)
            for n, sign in enumerate(told):
                span = ((number(begin + n * step), True, number(begin + (n + 1) * step), False),)
                within = both(span, stretches)
                self.assertEqual(sign, "#" if within == span else "+" if within else ".")
                tried = [has(stretches, number(begin + step * (n + Fraction(k, 16)))) for k in range(16)]
                self.assertFalse(sign == "." and any(tried) or sign == "#" and not all(tried))
                signs.add(sign)
        self.assertEqual(len(signs), 3)


class Sight(unittest.TestCase):
    def test_one_line_and_sixty(self):
        self.assertEqual(sight(HALF, (-2, 2), (5, 5)), "###..")
        self.assertEqual(sight(HALF, (0, 0), (0, 0)), "#")
        self.assertEqual(sight(HALF, (1, 1), (-7, -7)), ".")
        told = sight(HALF, (-59, 0), (-100, -41)).split("\n")
        self.assertEqual([len(told), {len(line) for line in told}, set("".join(told))], [60, {60}, {"#"}])

    def test_bounds(self):
        right = (0, 1)
        for wrong in ((0, 60), (1, 0), (-1, 59), (0, -1), (0, 1000), (5, 4), [0, 1], (0,), (0, 1, 2), (0, True), (False, 1), None, "01", ((0, 1), (1, 1)), (0, None)):
            self.assertEqual(refused(sight, HALF, wrong, right), ("BadBounds", wrong))
            self.assertEqual(refused(sight, HALF, right, wrong), ("BadBounds", wrong))
            self.assertEqual(refused(sight, HALF, wrong, (3, 2)), ("BadBounds", wrong))
            self.assertEqual(refused(sight, ("half", 0, 0, 1), wrong, wrong), ("BadRegion", ("half", 0, 0, 1)))

    def test_rims_and_sequence(self):
        self.assertEqual(sight(read_region("(disc 0 0 4)"), (-2, 2), (-2, 2)), "..#..\n.###.\n#####\n.###.\n..#..")
        self.assertEqual(sight(read_region("(not (disc 0 0 4))"), (-2, 2), (-2, 2)), "##.##\n#...#\n.....\n#...#\n##.##")
        self.assertEqual(sight(read_region("(half 1 2 -3)"), (-5, -1), (-2, 1)), "#....\n###..\n#####\n#####")
        self.assertEqual(sight(read_region("(half 0 1 0)"), (3, 4), (-1, 2)), "..\n..\n##\n##")

    def test_many(self):
        chance = random.Random(52)
        for _ in range(60):
            region = random_region(chance, 4, 6)
            xs, ys = [(low, low + chance.randint(0, 9)) for low in (chance.randint(-9, 5), chance.randint(-9, 5))]
            told = sight(region, xs, ys).split("\n")
            self.assertEqual(told, ["".join(["#" if is_in(region, spot(x, y)) else "." for x in range(xs[0], xs[1] + 1)]) for y in reversed(range(ys[0], ys[1] + 1))])


if __name__ == "__main__":
    unittest.main()
