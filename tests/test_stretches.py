"""Point 5, and guarantee (b): STRETCHES, in their one form.

Many lots of moments are checked by *cells*: GRID is an ascending row of MOMENTS; cell 2 n is its MOMENT number n,
cell 2 n + 1 all that lies between this one and the next one. A lot is a list of bools, one for each cell.
"""
import random
import unittest

from crossingstold.moments import compared
from crossingstold.stretches import (
    both, has, joined, lasts, less, narrowed, put_off, read_stretches, since, stretches_of, stretches_text, widened)
from tests.helpers import order_of, refused

ROOT = (1, 0, -2, 1)
UNITS, EACH = 5, 4


def unit_of(n):
    """Four MOMENTS from n on, below n + 1: n, n - 1 and the root of 2, n + 1/2, n - 1 and the root of 3."""
    m = n - 1
    return [(n, 1), (1, -2 * m, m * m - 2, 1), (2 * n + 1, 2), (1, -2 * m, m * m - 3, 1)]


GRID = [moment for n in range(-2, 30) for moment in unit_of(n)]
CELLS = 2 * UNITS * EACH


def told_of(cells):
    """The STRETCHES of a lot of cells, reckoned by looking at one cell after the other."""
    told, begin = [], None
    for at, inside in enumerate([*cells, False]):
        if inside and begin is None:
            begin = at
        if not inside and begin is not None:
            last = at - 1
            told.append((GRID[begin // 2], begin % 2 == 0, GRID[(last + 1) // 2], last % 2 == 0))
            begin = None
    return tuple(told)


def random_cells(chance):
    """A lot that changes now and then."""
    often, inside, cells = chance.choice([0.1, 0.3, 0.6, 0.9]), chance.random() < 0.5, []
    for _ in range(CELLS):
        if chance.random() < often:
            inside = not inside
        cells.append(inside)
    return cells


def since_cells(one, other):
    """What since tells, cell by cell: from s in other, through the rest of its cell, on to t."""
    told = []
    for at in range(len(one)):
        found = other[at]
        for s in range(at):
            if other[s] and all(one[s + 1:at + 1]) and (s % 2 == 0 or one[s]):
                found = True
        told.append(found)
    return told


def texts_of(text, *calls):
    """What each call tells of the STRETCHES whose text this is, as a text."""
    return [stretches_text(call(read_stretches(text))) for call in calls]


class Grid(unittest.TestCase):
    def test_it_ascends(self):
        for one, other in zip(GRID, GRID[1:]):
            self.assertEqual(order_of(one, other), -1)


class ByCells(unittest.TestCase):
    def setUp(self):
        self.chance = random.Random(5)

    def pairs(self, many):
        for _ in range(many):
            one, other = random_cells(self.chance), random_cells(self.chance)
            yield one, other, told_of(one), told_of(other)

    def test_two_together(self):
        for one, other, left, right in self.pairs(150):
            for function, wanted in ((joined, lambda p, q: p or q), (both, lambda p, q: p and q),
                                     (less, lambda p, q: p and not q)):
                cells = [wanted(p, q) for p, q in zip(one, other)]
                self.assertEqual(function(left, right), told_of(cells), (function.__name__, left, right))

    def test_since(self):
        for one, other, left, right in self.pairs(150):
            self.assertEqual(since(left, right), told_of(since_cells(one, other)), (left, right))

    def test_lengths(self):
        for _ in range(60):
            cells = random_cells(self.chance)
            stretches = told_of(cells)
            for units in range(4):
                far = 2 * EACH * units
                long = [False] * far + cells + [False] * far
                spans = [long[at - far:at + 1] for at in range(far, len(long))]
                self.assertEqual(narrowed(stretches, (units, 1)), told_of([all(span) for span in spans]))
                self.assertEqual(widened(stretches, (units, 1)), told_of([any(span) for span in spans]))
                self.assertEqual(put_off(stretches, (units, 1)), told_of([False] * far + cells))
                self.assertEqual(put_off(put_off(stretches, (units, 1)), (-units, 1)), stretches)
                reached = [order_of((low[0] + units * low[1], low[1]), high) <= 0
                           for low, _, high, _ in stretches if len(low) == 2]
                reached += [compared(put_off((stretch,), (units, 1))[0][0], stretch[2]) <= 0
                            for stretch in stretches if len(stretch[0]) == 4]
                self.assertEqual(lasts(stretches, (units, 1)), any(reached))

    def test_has(self):
        for _ in range(40):
            cells = random_cells(self.chance)
            stretches = told_of(cells)
            for at in range(0, CELLS, 2):
                self.assertIs(has(stretches, GRID[at // 2]), cells[at])
            for n in range(UNITS):
                # n - 2 and a quarter lies between the first and the second MOMENT of its unit.
                self.assertIs(has(stretches, (4 * (n - 2) + 1, 4)), cells[2 * EACH * n + 1])

    def test_put_together_from_any_pieces(self):
        for _ in range(150):
            cells, pieces = [False] * CELLS, []
            for _ in range(self.chance.randint(0, 14)):
                first = self.chance.randrange(CELLS - 1)
                last = self.chance.randint(first, min(CELLS - 2, first + self.chance.choice([0, 2, 20])))
                piece = told_of([first <= at <= last for at in range(CELLS)])
                pieces += piece * self.chance.randint(1, 2)
                cells = [inside or first <= at <= last for at, inside in enumerate(cells)]
            self.chance.shuffle(pieces)
            self.assertEqual(stretches_of(tuple(pieces)), told_of(cells))

    def test_texts_there_and_back(self):
        for _ in range(100):
            stretches = told_of(random_cells(self.chance))
            self.assertEqual(read_stretches(stretches_text(stretches)), stretches)


class Making(unittest.TestCase):
    def of(self, text, many=1):
        """What stretches_of tells of STRETCHES, told backwards and so many times."""
        some = tuple([stretch for part in text.split(" + ") for stretch in read_stretches(part)])
        told = {stretches_text(stretches_of(order * many)) for order in (some, some[::-1])}
        self.assertEqual(len(told), 1)
        return told.pop()

    def test_plain_ones(self):
        for text, told in (
                ("[0, 1] + [1, 2]", "[0, 2]"), ("[0, 1) + [1, 2]", "[0, 2]"), ("[0, 1] + (1, 2]", "[0, 2]"),
                ("[0, 1) + (1, 2]", "[0, 1); (1, 2]"), ("[0, 1) + (1, 2] + [1, 1]", "[0, 2]"),
                ("[0, 3] + (1, 2)", "[0, 3]"), ("(0, 3) + [0, 3]", "[0, 3]"), ("(0, 3] + [0, 2]", "[0, 3]"),
                ("(0, 3) + [0, 0]", "[0, 3)"), ("(0, 3) + [3, 3]", "(0, 3]"), ("[0, 2) + (1, 3)", "[0, 3)"),
                ("[1, 1]", "[1, 1]"), ("[1, 1] + [2, 2]", "[1, 1]; [2, 2]"), ("[0, 1] + [2, 3] + [1/2, 5/2]", "[0, 3]"),
                ("[0, root 1 0 -2 high) + [root 1 0 -2 high, 2]", "[0, 2]"),
                ("[0, root 1 0 -2 high) + (root 1 0 -2 high, 2]", "[0, root 1 0 -2 high); (root 1 0 -2 high, 2]"),
                ("[root 1 0 -2 low, root 1 0 -2 high] + [root 1 0 -2 high, root 1 0 -2 high]",
                 "[root 1 0 -2 low, root 1 0 -2 high]")):
            self.assertEqual(self.of(text), told)
            self.assertEqual(self.of(text, 3), told)
        self.assertEqual(stretches_of(()), ())

    def test_two_hundred_and_two_hundred_and_one(self):
        some = tuple([((n, 1), True, (2 * n + 1, 2), False) for n in range(200)])
        self.assertEqual(stretches_of(some), some)
        self.assertEqual(stretches_of(some[::-1]), some)
        self.assertEqual(stretches_of(some[:1] * 200), some[:1])
        for wrong in ((*some, some[0]), some[:1] * 201, (*some, ((200, 1), True, (201, 1), True)), some[:1] * 300):
            with self.assertRaises(ValueError) as caught:
                stretches_of(wrong)
            self.assertEqual(type(caught.exception).__name__, "BadStretches")
            self.assertIs(caught.exception.value, wrong)

    def test_what_is_none_of_them(self):
        good = ((0, 1), True, (1, 1), False)
        for wrong in (good, [good], (good, None), (None,), ((good,),), (list(good),), (good[:3],), ((*good, True),),
                      (((1, 1), True, (0, 1), True),), (((1, 1), True, (1, 1), False),), (((0, 1), 1, (1, 1), 0),),
                      (((0, 2), True, (1, 1), True),), ((ROOT, True, (1, 1), True),), ((ROOT, False, ROOT, False),),
                      (good, ((1, 0, -4, 1), True, (5, 1), True)), None, "", "[0, 1]", {}, 0, True):
            self.assertEqual(refused(stretches_of, wrong), ("BadStretches", wrong))

    def test_more_than_two_hundred_stretches_are_stretches(self):
        one = tuple([((2 * n, 1), True, (2 * n + 1, 1), True) for n in range(200)])
        other = put_off(one, (400, 1))
        many = joined(one, other)
        self.assertEqual(many, one + other)
        self.assertEqual(both(many, other), other)
        self.assertEqual(less(many, other), one)
        self.assertEqual(since(many, other), other)
        self.assertEqual(widened(many, (1, 1)), (((0, 1), True, (800, 1), True),))
        self.assertEqual(narrowed(many, (1, 1))[399], ((799, 1), True, (799, 1), True))
        self.assertEqual(read_stretches(stretches_text(many)), many)
        self.assertEqual([has(many, (799, 1)), has(many, (800, 1)), lasts(many, (1, 1))], [True, False, True])


class Has(unittest.TestCase):
    def test_ends(self):
        one = read_stretches("[0, 1); (1, 2]; [3, 3]; (root 1 0 -11 high, root 1 0 -12 high]; [4, root 1 0 -17 high)")
        for moment, told in (
                ((0, 1), True), ((1, 1), False), ((2, 1), True), ((3, 1), True), ((5, 2), False), ((-1, 9), False),
                ((1, 2), True), ((3, 2), True), ((1, 0, -11, 1), False), ((1, 0, -11, -1), False), ((10, 3), True),
                ((1, 0, -12, 1), True), ((1, 0, -12, -1), False), ((1, 0, -17, 1), False), ((4, 1), True),
                ((9, 1), False), (ROOT, True), ((1, 0, -5, 1), False), ((29, 10), False), ((31, 10), False)):
            self.assertIs(has(one, moment), told, moment)
        self.assertIs(has((), (0, 1)), False)


class Together(unittest.TestCase):
    def test_plain_ones(self):
        for one, other, told in (
                ("", "", ("", "", "")), ("[0, 1]", "", ("[0, 1]", "", "[0, 1]")), ("", "[0, 1]", ("[0, 1]", "", "")),
                ("[0, 1]", "[1, 2]", ("[0, 2]", "[1, 1]", "[0, 1)")), ("[0, 1)", "[1, 2]", ("[0, 2]", "", "[0, 1)")),
                ("[0, 1)", "(1, 2]", ("[0, 1); (1, 2]", "", "[0, 1)")),
                ("[0, 2]", "[1, 1]", ("[0, 2]", "[1, 1]", "[0, 1); (1, 2]")),
                ("[0, 2]", "(0, 2)", ("[0, 2]", "(0, 2)", "[0, 0]; [2, 2]")),
                ("(0, 2)", "[0, 2]", ("[0, 2]", "(0, 2)", "")),
                ("[0, 2]", "(0, 1); (1, 2)", ("[0, 2]", "(0, 1); (1, 2)", "[0, 0]; [1, 1]; [2, 2]")),
                ("[1, 1]", "[1, 1]", ("[1, 1]", "[1, 1]", "")),
                ("[0, 1); (1, 2]", "[1, 1]", ("[0, 2]", "", "[0, 1); (1, 2]")),
                ("[0, root 1 0 -2 high]", "[root 1 0 -2 high, 3/2)",
                 ("[0, 3/2)", "[root 1 0 -2 high, root 1 0 -2 high]", "[0, root 1 0 -2 high)")),
                ("(root 1 0 -2 low, root 1 0 -2 high)", "[-7/5, 7/5]",
                 ("(root 1 0 -2 low, root 1 0 -2 high)", "[-7/5, 7/5]", "(root 1 0 -2 low, -7/5); (7/5, root 1 0 -2 high)"))):
            left, right = read_stretches(one), read_stretches(other)
            self.assertEqual(tuple([stretches_text(call(left, right)) for call in (joined, both, less)]), told)


class Lengths(unittest.TestCase):
    def test_narrowed(self):
        text = "[0, 1]; (2, 3); [4, 5); (6, 7]; [8, 8]; [9, root 1 0 -101 high]"
        zero, half, whole, longer, more = texts_of(
            text, *[lambda one, by=by: narrowed(one, by) for by in ((0, 1), (1, 2), (1, 1), (21, 20), (3, 1))])
        self.assertEqual(zero, text)
        self.assertEqual(half, "[1/2, 1]; (5/2, 3); [9/2, 5); (13/2, 7]; [19/2, root 1 0 -101 high]")
        self.assertEqual(whole, "[1, 1]; [10, root 1 0 -101 high]")
        self.assertEqual([longer, more], ["", ""])
        self.assertEqual(texts_of("[root 1 0 -2 high, root 1 -2 -1 high]", lambda one: narrowed(one, (1, 1)),
                                  lambda one: narrowed(one, (999, 1000)), lambda one: narrowed(one, (1001, 1000))),
                         ["[root 1 -2 -1 high, root 1 -2 -1 high]",
                          "[root 1000000 -1998000 -1001999 high, root 1 -2 -1 high]", ""])

    def test_widened(self):
        text = "[0, 1]; (2, 3); [4, 5); (6, 7]; [8, 8]"
        zero, half, whole, more = texts_of(
            text, *[lambda one, by=by: widened(one, by) for by in ((0, 1), (1, 2), (1, 1), (3, 1))])
        self.assertEqual([zero, half], [text, "[0, 3/2]; (2, 7/2); [4, 11/2); (6, 15/2]; [8, 17/2]"])
        self.assertEqual([whole, more], ["[0, 6); (6, 9]", "[0, 11]"])
        self.assertEqual(texts_of("(0, 1); (2, 3)", lambda one: widened(one, (1, 1))), ["(0, 2); (2, 4)"])
        self.assertEqual(texts_of("(0, 1); [2, 3)", lambda one: widened(one, (1, 1))), ["(0, 4)"])
        self.assertEqual(texts_of("(0, 1]; (2, 3)", lambda one: widened(one, (1, 1))), ["(0, 4)"])
        self.assertEqual([narrowed((), (1, 1)), widened((), (1, 1)), narrowed((), (0, 1)), put_off((), (5, 2))], [()] * 4)

    def test_narrowed_and_widened_back(self):
        one = read_stretches("[0, 1); (1, 2]; [root 1 0 -12 high, 6)")
        self.assertEqual(stretches_text(narrowed(widened(one, (1, 1)), (1, 1))), "[1, 3]; [root 1 -2 -11 high, 7)")

    def test_put_off(self):
        one = read_stretches("[0, 1); (1, 2]; [3, root 1 0 -12 high)")
        self.assertEqual(stretches_text(put_off(one, (-7, 2))), "[-7/2, -5/2); (-5/2, -3/2]; [-1/2, root 4 28 1 high)")
        self.assertEqual(put_off(one, (0, 1)), one)

    def test_lasts(self):
        for text, length, told in (
                ("[0, 1]", (1, 1), True), ("(0, 1)", (1, 1), True), ("[0, 1)", (1, 1), True), ("(0, 1]", (1, 1), True),
                ("[0, 1]", (1001, 1000), False), ("(0, 1)", (999, 1000), True), ("[0, 1); (1, 2]", (2, 1), False),
                ("[0, 1]; [2, 4]; [5, 6]", (2, 1), True), ("[0, 1]; [2, 4]; [5, 6]", (3, 1), False), ("", (0, 1), False),
                ("[1, 1]", (0, 1), True), ("[1, 1]", (1, 1000), False), ("(0, root 1 0 -2 high)", (7, 5), True),
                ("(0, root 1 0 -2 high)", (71, 50), False), ("(root 1 0 -2 low, root 1 0 -2 high)", (14, 5), True),
                ("(root 1 0 -2 low, root 1 0 -2 high)", (283, 100), False),
                ("(root 1 0 -2 high, root 1 -2 -1 high)", (1, 1), True),
                ("(root 1 0 -2 high, root 1 -2 -1 high)", (1000001, 1000000), False)):
            self.assertIs(lasts(read_stretches(text), length), told, (text, length))


class Since(unittest.TestCase):
    def test_plain_ones(self):
        for one, other, told in (
                # The one begins just where the other one is, its end counted in or not.
                ("[1, 2]", "[1, 1]", "[1, 2]"), ("(1, 2]", "[1, 1]", "[1, 2]"), ("(1, 2)", "[0, 1]", "[0, 2)"),
                ("[1, 2]", "[0, 1]", "[0, 2]"), ("(1, 2]", "[0, 1)", "[0, 1)"), ("[1, 2]", "[0, 1)", "[0, 1)"),
                # The other one lies outside of the one.
                ("[1, 2]", "[0, 0]", "[0, 0]"), ("[1, 2]", "[3, 4]", "[3, 4]"), ("[1, 2]", "(2, 3)", "(2, 3)"),
                ("[1, 2]", "", ""), ("", "[1, 2]", "[1, 2]"), ("", "", ""),
                # At ends, counted in or not.
                ("[1, 2]", "[2, 2]", "[2, 2]"), ("[1, 2)", "[2, 2]", "[2, 2]"), ("[1, 2)", "[2, 3]", "[2, 3]"),
                ("[1, 2]", "(1, 3/2)", "(1, 2]"), ("[1, 2)", "(1, 3/2)", "(1, 2)"),
                ("[1, 2]", "(0, 3/2)", "(0, 2]"), ("[1, 2]", "(0, 3)", "(0, 3)"), ("[1, 2]", "[1, 2)", "[1, 2]"),
                ("[0, 1); (1, 2]", "[1, 1]", "[1, 2]"), ("[0, 1); (1, 2]", "[0, 0]", "[0, 1)"),
                ("[0, 1); (1, 2]", "[0, 1]", "[0, 2]"), ("[0, 1); (1, 2]", "[0, 1)", "[0, 1)"),
                ("[0, 1]; [2, 3]", "[1/2, 5/2]", "[1/2, 3]"), ("[0, 5]", "[1, 1]; [3, 3]", "[1, 5]"),
                ("[0, 2]; [3, 5]", "[1, 1]; [4, 4]", "[1, 2]; [4, 5]"), ("[0, 2]", "(0, 1)", "(0, 2]"),
                ("[1, 1]", "[1, 1]", "[1, 1]"), ("[1, 1]", "[0, 1)", "[0, 1)"), ("[1, 1]", "(0, 1]", "(0, 1]"),
                ("(0, root 1 0 -2 high)", "[1, 1]", "[1, root 1 0 -2 high)"),
                ("[root 1 0 -2 high, 2]", "[1, root 1 0 -2 high]", "[1, 2]"),
                ("[root 1 0 -2 high, 2]", "[1, root 1 0 -2 high)", "[1, root 1 0 -2 high)"),
                ("[7/5, 2]", "(root 1 0 -2 high, 3/2)", "(root 1 0 -2 high, 2]")):
            left, right = read_stretches(one), read_stretches(other)
            self.assertEqual(stretches_text(since(left, right)), told, (one, other))


class Texts(unittest.TestCase):
    def test_there_and_back(self):
        for text, told in (
                ("", ()), ("[0, 3/2)", (((0, 1), True, (3, 2), False),)), ("[1, 1]", (((1, 1), True, (1, 1), True),)),
                ("(root 1 0 -2 high, 2]", ((ROOT, False, (2, 1), True),)),
                ("[-1/2, 0); (0, root 1 0 -2 high)",
                 (((-1, 2), True, (0, 1), False), ((0, 1), False, ROOT, False)))):
            self.assertEqual(read_stretches(text), told)
            self.assertEqual(stretches_text(told), text)

    def test_great_numbers(self):
        great = ((0, 1), True, (10 ** 5000 + 1, 10 ** 5000), False)
        self.assertEqual(read_stretches(stretches_text((great,))), (great,))

    def test_nearly_texts(self):
        for text in (
                " ", ";", "; ", "[]", "[", "]", "0, 1", "[0, 1", "0, 1]", "[0,1]", "[0,  1]", "[0 , 1]", "[ 0, 1]",
                "[0, 1 ]", " [0, 1]", "[0, 1] ", "[0, 1]\n", "[0, 1];", "[0, 1]; ", "; [0, 1]", "[0, 1];[2, 3]",
                "[0, 1];  [2, 3]", "[0, 1] ; [2, 3]", "[0, 1], [2, 3]", "[0, 1] [2, 3]", "[0, 1]\n[2, 3]",
                "[2, 3]; [0, 1]", "[0, 1]; [1, 2]", "[0, 1); [1, 2]", "[0, 1]; (1, 2]", "[0, 2]; [1, 3]",
                "[0, 1]; [0, 1]", "[0, 1); [1, 1]", "[1, 1]; (1, 2]", "[1, 0]", "[1, 1)", "(1, 1]", "(1, 1)", "{0, 1}",
                "<0, 1>", "{0, 1]", "]0, 1]", "<0, 1)", ".0, 1)", "[0, 1}", "(0, 1[", "]0, 1[", ")0, 1(", "[0, 1>", "((0, 1))", "[[0, 1]]", "[0]", "[0, 1, 2]", "[0; 1]", "[, 1]",
                "[0, ]", "[, ]", "[0, 2/2]", "[2/4, 1]", "[0/1, 1]", "[+0, 1]", "[-0, 1]", "[00, 1]", "[0, 3/1]",
                "[0, root 2 0 -4 high]", "[0, root 1 0 -2]", "[root 1 0 -2 high, root 1 0 -2 low]",
                "[root 1 0 -2 high, 7/5]", "[root 1 0 -2 high, root 1 0 -2 high)", "[None, 1]", "[0, 1]; None", "none",
                "[0, root 1 0 -2 high); [root 1 0 -2 high, 2]", "[(0, 1), (1, 1)]", "[0, 1]; [", "[0, 1]; []"):
            self.assertEqual(refused(read_stretches, text), ("BadStretches", text))


class Answers(unittest.TestCase):
    def test_answers_are_tuples_of_tuples_with_bools(self):
        one, other = read_stretches("[0, 1); (1, 2]; [3, 4]"), read_stretches("[1, 1]; (3/2, root 1 0 -12 high)")
        length = (1, 2)
        for told in (joined(one, other), both(one, other), less(one, other), since(one, other), put_off(one, length),
                     narrowed(one, length), widened(one, length), stretches_of(one + other), one):
            self.assertIs(type(told), tuple)
            for stretch in told:
                self.assertEqual([type(part) for part in stretch], [tuple, bool, tuple, bool])
        self.assertEqual(stretches_text(one), "[0, 1); (1, 2]; [3, 4]")
        self.assertEqual(stretches_text(other), "[1, 1]; (3/2, root 1 0 -12 high)")
