"""Point 8, guarantee (c) in part: RULES, their texts, and when they are held."""
import random
import unittest
from fractions import Fraction

from crossingstold.rules import far_back, held, held_at, names_in, read_rule, rule_text
from crossingstold.stretches import has, stretches_text
from crossingstold.ways import during, near, read_way
from tests.helpers import number, order_of, refused, shown_wrong, text_of, worth
from tests.model import Model, random_leaf, random_rule, random_way

VAN = read_way("0 0 0 ; 10 10 0")
CART = read_way("2 6 0 ; 8 6 0")
THINGS = (("cart", CART), ("van", VAN))
WATCH = ((0, 1), (10, 1))
DISC = ("disc", ((5, 1), (0, 1)), (4, 1))
INSIDE = ("in", "van", DISC)
EAST = ("in", "van", ("half", -1, 0, -6))
NEAR = ("near", "van", "cart", (1, 4))


def words_of(rule):
    """The text of what is a RULE, or nearly one."""
    word, *inner = rule
    if word == "in":
        told = [inner[0], text_of(inner[1])]
    elif word == "near":
        told = [*inner[:2], str(worth(inner[2]))]
    elif word in ("long", "lately"):
        told = [str(worth(inner[0])), *[words_of(part) for part in inner[1:]]]
    else:
        told = [words_of(part) for part in inner]
    return "(" + " ".join([word, *told]) + ")"


def nested(deep, word="not", inner=INSIDE):
    """A RULE nested so deep, inner being 1 deep."""
    for _ in range(deep - 1):
        inner = {"long": (word, (1, 2), inner), "lately": (word, (1, 2), inner),
                 "since": (word, inner, INSIDE)}.get(word, (word, inner))
    return inner


def counted(many):
    """A RULE of so many in all, the inner ones too, from 2 to 64."""
    groups, left = [], many - 1
    while left > 0:
        # A group of n has one tuple of its own, and n - 1 within it.
        size = min(left, 9)
        groups.append(INSIDE if size == 1 else ("and", *[INSIDE] * (size - 1)))
        left -= size
    return ("or", *groups)


def held_text(text, watch=WATCH, things=THINGS):
    """The text of what held tells of the RULE whose text this is."""
    return stretches_text(held(read_rule(text), things, watch))


def going(text, things="0 0 0 ; 10 10 0"):
    """Held for one thing, a, whose place is its moment, with x ~ n for (in a (half 1 0 n))."""
    return held_text(text, WATCH, (("a", read_way(things)),))


def on(low, high):
    """The text of a RULE that is so from low to high, for what goes as going tells."""
    return f"(in a (and (half -1 0 {-low}) (half 1 0 {high})))"


# So at these moments, by the place of a: ends counted in, ends not counted in, a single moment, all but one.
CLOSED, OPEN = on(3, 7), f"(not (or {on(-9, 3)} {on(7, 19)}))"
SINGLE, PIERCED = on(4, 4), f"(not {on(4, 4)})"


class Texts(unittest.TestCase):
    def test_each_form(self):
        for rule, text in (
                (INSIDE, "(in van (disc 5 0 4))"), (NEAR, "(near van cart 1/4)"), (("and", INSIDE), "(and (in van (disc 5 0 4)))"),
                (("or", NEAR, EAST), "(or (near van cart 1/4) (in van (half -1 0 -6)))"), (("not", NEAR), "(not (near van cart 1/4))"),
                (("long", (2, 1), EAST), "(long 2 (in van (half -1 0 -6)))"),
                (("lately", (0, 1), ("not", EAST)), "(lately 0 (not (in van (half -1 0 -6))))"),
                (("since", NEAR, EAST), "(since (near van cart 1/4) (in van (half -1 0 -6)))"),
                (("near", "a", "a", (0, 1)), "(near a a 0)"), (("long", (5, 3), NEAR), "(long 5/3 (near van cart 1/4))"),
                (("in", "z9876543", ("not", ("half", 1, 2, 3))), "(in z9876543 (not (half 1 2 3)))"),
                (("in", "in", ("and", DISC, ("half", 0, 2, -4))), "(in in (and (disc 5 0 4) (half 0 2 -4)))"),
                (("near", "near", "and", (1, 1)), "(near near and 1)")):
            self.assertEqual(rule_text(rule), text)
            self.assertEqual(read_rule(text), rule)

    def test_many_there_and_back(self):
        chance = random.Random(1)
        names = ["a", "b2", "van", "longname"]
        for _ in range(150):
            leaves = [random_leaf(chance, names) for _ in range(3)]
            rule = random_rule(chance, 3, names, leaves, Fraction(1, chance.choice([1, 2, 3])))
            self.assertEqual(rule_text(rule), words_of(rule))
            self.assertEqual(read_rule(words_of(rule)), rule)

    def test_great_numbers(self):
        for rule in (("long", (10 ** 5000 + 1, 10 ** 5000), INSIDE), ("near", "a", "b", (10 ** 6000, 7)),
                     ("in", "a", ("half", 10 ** 5000, 1, -10 ** 5000))):
            self.assertEqual(read_rule(rule_text(rule)), rule)

    def test_nearly_texts(self):
        for text in (
                "", " ", "()", "(", ")", "in", "in van (disc 5 0 4)", "(in)", "(in van)", "(in van disc)", "(in van (disc 5 0))",
                "(in van (disc 5 0 4)", "(in van (disc 5 0 4)))", "((in van (disc 5 0 4)))", "(in van(disc 5 0 4))",
                "(in van  (disc 5 0 4))", "(in  van (disc 5 0 4))", " (in van (disc 5 0 4))", "(in van (disc 5 0 4)) ",
                "( in van (disc 5 0 4))", "(in van (disc 5 0 4) )", "(in van (disc 5 0 4))\n", "(in\nvan (disc 5 0 4))",
                "(In van (disc 5 0 4))", "(in Van (disc 5 0 4))", "(in 1van (disc 5 0 4))", "(in vanvanvan (disc 5 0 4))",
                "(in (van) (disc 5 0 4))", "(in van van (disc 5 0 4))", "(in van (disc 5 0 4) (disc 5 0 4))",
                "(in van (half 0 0 1))", "(in van (disc 5 0 -4))", "(in van (disc 5 0 8/2))", "(in van ())",
                "(in van (in van (disc 5 0 4)))", "(in (disc 5 0 4) van)", "(disc 5 0 4)", "(half 1 0 0)", "(and (disc 5 0 4))",
                "(not (half 1 0 0))", "(near van cart)", "(near van 1)", "(near van cart 1 1)", "(near van cart dog 1)",
                "(near van cart -1)", "(near van cart 2/4)", "(near van cart 1/1)", "(near van cart 01)", "(near van cart (1))",
                "(near van cart root 1 0 -2 high)", "(near Van cart 1)", "(near van  cart 1)", "(near van cart x)", "(near  van 1)",
                "(and)", "(or)", "(not)", "(and )", "(not (near a b 1) (near a b 1))", "(and 1 (near a b 1))", "(and van)",
                "(and (near a b 1)(near a b 1))", "(and (near a b 1), (near a b 1))", "(xor (near a b 1))", "(not near a b 1)",
                "(long (near a b 1))", "(long 2)", "(long)", "(lately)", "(since)", "(long -1 (near a b 1))", "(long 2/2 (near a b 1))",
                "(long 2 (near a b 1) (near a b 1))", "(long (near a b 1) 2)", "(long 2 2 (near a b 1))", "(long 2 3)",
                "(lately (near a b 1))", "(lately -1/2 (near a b 1))", "(lately 1 (near a b 1) (near a b 1))", "(lately 1)",
                "(since (near a b 1))", "(since (near a b 1) (near a b 1) (near a b 1))", "(since 1 (near a b 1))",
                "(since (near a b 1)  (near a b 1))", "(near a b 1) (near a b 1)", "(near a b 1)(near a b 1)", "((near) a b 1)",
                "((not) (near a b 1))", "(long (1) (near a b 1))", "(2 (near a b 1))", "[near a b 1]", "(near a b 1", "near a b 1)",
                "(" * 5000 + ")" * 5000, "(in a " + "(not " * 5000 + "(half 1 0 0)" + ")" * 5001, "(not " * 5000 + "(near a b 1)" + ")" * 5000,
                "(long 1 " * 5000 + "(near a b 1)" + ")" * 5000, "(and (lately 1 " + "(lately 2 " * 5000 + "(near a b 1)" + ")" * 5002):
            shown_wrong(self, read_rule, text, name="BadRule")

    def test_changed_signs_are_no_text_or_that_of_another_rule(self):
        chance = random.Random(2)
        rule = ("or", ("since", INSIDE, ("long", (1, 2), NEAR)), ("not", ("lately", (3, 1), EAST)))
        text = rule_text(rule)
        for _ in range(1500):
            place = chance.randrange(len(text))
            other = text[:place] + chance.choice(["", " ", "(", ")", "0", "-", "/", "a", "1"]) + text[place + chance.randint(0, 1):]
            try:
                self.assertEqual(rule_text(read_rule(other)), other)
            except ValueError as error:
                self.assertEqual((type(error).__name__, error.value), ("BadRule", other))


class Bounds(unittest.TestCase):
    def check(self, rule, right):
        """That each function takes the RULE, and its text, or that each refuses both."""
        text = words_of(rule)
        calls = [(rule_text, ()), (names_in, ()), (far_back, ()), (held, (THINGS, WATCH)), (held_at, (THINGS, WATCH, (1, 1)))]
        for function, others in calls:
            if right:
                function(rule, *others)
            else:
                shown_wrong(self, function, rule, *others, name="BadRule")
        if right:
            self.assertEqual([rule_text(rule), read_rule(text)], [text, rule])
        else:
            shown_wrong(self, read_rule, text, name="BadRule")

    def test_eight_and_nine_deep(self):
        for word in ("and", "or", "not", "long", "lately", "since"):
            for inner in (INSIDE, NEAR):
                self.check(nested(8, word, inner), True)
                self.check(nested(9, word, inner), False)
                self.check(("or", NEAR, nested(7, word, inner)), True)
                self.check(("or", NEAR, nested(8, word, inner)), False)
                self.check(("since", nested(7, word, inner), NEAR), True)
                self.check(("since", nested(8, word, inner), NEAR), False)
        self.check(nested(60), False)

    def test_regions_are_counted_by_themselves(self):
        region = ("half", 1, 0, 0)
        for _ in range(7):
            region = ("not", region)
        wide = ("or", *[("and", *[DISC] * 7)] * 4, DISC, DISC)
        self.check(nested(8, "not", ("in", "van", region)), True)
        self.check(("and", *[("or", *[("in", "van", wide)] * 5)] * 3), True)
        self.check(nested(8, "not", ("in", "van", ("not", region))), False)
        self.check(("in", "van", ("or", wide, DISC)), False)

    def test_twenty_and_twenty_one_in_all(self):
        for many in (2, 9, 10, 11, 19, 20):
            self.check(counted(many), True)
        for many in (21, 22, 40):
            self.check(counted(many), False)
        # Each is counted at each place at which it stands, also within one tuple that stands twice.
        nine, ten = ("and", *[INSIDE] * 8), ("not", ("and", *[INSIDE] * 8))
        self.check(("since", nine, ten), True)
        self.check(("since", ten, ten), False)
        self.check(("not", ("since", nine, ten)), False)
        self.check(("long", (1, 1), ("lately", (1, 1), ("and", nine, ("or", *[NEAR] * 6)))), True)
        self.check(("long", (1, 1), ("lately", (1, 1), ("and", nine, ("or", *[NEAR] * 7)))), True)
        self.check(("long", (1, 1), ("lately", (1, 1), ("and", nine, ("or", *[NEAR] * 8)))), False)

    def test_how_many_stand_behind_a_word(self):
        for word in ("and", "or"):
            for many in range(1, 9):
                self.check((word, *[NEAR] * many), True)
            self.check((word,), False)
            self.check((word, *[NEAR] * 9), False)
            self.check(("not", (word,)), False)
        for wrong in (("not",), ("not", NEAR, NEAR), ("since",), ("since", NEAR), ("since", NEAR, NEAR, NEAR),
                      ("long", (1, 1)), ("long", (1, 1), NEAR, NEAR), ("lately", (1, 1)), ("lately", (1, 1), NEAR, NEAR)):
            self.check(wrong, False)

    def test_what_is_told_twice_over_and_over_is_refused_soon(self):
        value = INSIDE
        for _ in range(58):
            value = ("and", *[value] * 8)
        shown_wrong(self, rule_text, value, name="BadRule")


class Names(unittest.TestCase):
    def test_each_once_ascending(self):
        for text, told in (
                ("(in van (disc 5 0 4))", ("van",)), ("(near van cart 1)", ("cart", "van")), ("(near a a 1)", ("a",)),
                ("(and (near b a2 1) (in a (half 1 0 0)) (not (in b (half 1 0 0))))", ("a", "a2", "b")),
                ("(since (long 1 (near z y 1)) (lately 2 (or (in x (half 1 0 0)) (near y z 2))))", ("x", "y", "z")),
                ("(or (in a10 (half 1 0 0)) (in a9 (half 1 0 0)) (in a (half 1 0 0)))", ("a", "a10", "a9"))):
            self.assertEqual(names_in(read_rule(text)), told)


class FarBack(unittest.TestCase):
    def test_each_form(self):
        for text, told in (
                ("(in van (disc 5 0 4))", (0, 1)), ("(near van cart 1)", (0, 1)), ("(long 2 (near a b 1))", (2, 1)),
                ("(lately 1/2 (long 2 (near a b 1)))", (5, 2)), ("(long 1/3 (lately 1/6 (near a b 1)))", (1, 2)),
                ("(not (lately 3 (near a b 1)))", (3, 1)), ("(long 0 (near a b 1))", (0, 1)),
                ("(and (long 2 (near a b 1)) (lately 5/2 (near a b 1)) (near a b 1))", (5, 2)),
                ("(or (long 7/3 (near a b 1)) (long 2 (lately 1/4 (near a b 1))))", (7, 3)),
                ("(lately 1 (or (long 1 (near a b 1)) (not (lately 4 (near a b 1)))))", (5, 1)),
                ("(since (near a b 1) (near a b 1))", None), ("(not (since (near a b 1) (near a b 1)))", None),
                ("(and (long 2 (near a b 1)) (since (near a b 1) (near a b 1)))", None),
                ("(or (since (near a b 1) (near a b 1)) (long 2 (near a b 1)))", None),
                ("(long 2 (since (near a b 1) (near a b 1)))", None), ("(lately 2 (not (since (near a b 1) (near a b 1))))", None),
                ("(since (long 2 (near a b 1)) (near a b 1))", None)):
            self.assertEqual(far_back(read_rule(text)), told, text)


class Plain(unittest.TestCase):
    def test_in_and_near(self):
        for text, told in (
                ("(in van (disc 5 0 4))", "[3, 7]"), ("(in van (disc 5 0 2))", "[root 1 -10 23 low, root 1 -10 23 high]"),
                ("(in van (half 0 1 -1))", ""), ("(in van (half 0 1 0))", "[0, 10]"), ("(in cart (half 0 1 0))", "[2, 8]"),
                ("(in cart (not (disc 0 0 1)))", "[2, 8]"), ("(in cart (disc 0 0 1))", ""), ("(near van cart 1/4)", "[11/2, 13/2]"),
                ("(near cart van 0)", "[6, 6]"), ("(near van cart 2)", "[root 1 -12 34 low, root 1 -12 34 high]"),
                ("(near van cart 100)", "[2, 8]"), ("(near van van 0)", "[0, 10]"), ("(near cart cart 0)", "[2, 8]"),
                ("(near van cart 4)", "[4, 8]")):
            self.assertEqual(held_text(text), told, text)

    def test_the_watch_beyond_the_spans_within_them_and_beside_them(self):
        for watch, told in (
                ((-5, 20), ("[3, 7]", "[2, 8]", "[-5, 3); (7, 20]", "[-5, 2); (8, 20]", "[4, 8]", "[0, 10]")),
                ((4, 5), ("[4, 5]", "[4, 5]", "", "", "[4, 5]", "[4, 5]")),
                ((7, 9), ("[7, 7]", "[7, 8]", "(7, 9]", "(8, 9]", "[7, 8]", "[7, 9]")),
                ((8, 9), ("", "[8, 8]", "[8, 9]", "(8, 9]", "[8, 8]", "[8, 9]")),
                ((10, 12), ("", "", "[10, 12]", "[10, 12]", "", "[10, 10]")),
                ((11, 12), ("", "", "[11, 12]", "[11, 12]", "", "")), ((-3, -1), ("", "", "[-3, -1]", "[-3, -1]", "", "")),
                ((-3, 0), ("", "", "[-3, 0]", "[-3, 0]", "", "[0, 0]")), ((-3, 3), ("[3, 3]", "[2, 3]", "[-3, 3)", "[-3, 2)", "", "[0, 3]"))):
            watch = (number(watch[0]), number(watch[1]))
            texts = ("(in van (disc 5 0 4))", "(in cart (half 0 1 0))", "(not (in van (disc 5 0 4)))",
                     "(not (in cart (half 0 1 0)))", "(near van cart 4)", "(near van van 0)")
            self.assertEqual(tuple([held_text(text, watch) for text in texts]), told, watch)

    def test_not_where_a_thing_has_no_way(self):
        late = (("a", read_way("3 0 0 ; 5 0 0")),)
        for text, told in (("(in a (half 1 0 9))", "[3, 5]"), ("(not (in a (half 1 0 9)))", "[0, 3); (5, 10]"),
                           ("(in a (not (half 1 0 9)))", ""), ("(not (in a (not (half 1 0 9))))", "[0, 10]"),
                           ("(not (near a a 0))", "[0, 3); (5, 10]"), ("(not (not (near a a 0)))", "[3, 5]"),
                           ("(long 1 (not (near a a 0)))", "[1, 3); (6, 10]"), ("(lately 1 (not (near a a 0)))", "[0, 4); (5, 10]"),
                           ("(since (not (near a a 0)) (near a a 0))", "[3, 10]")):
            self.assertEqual(held_text(text, WATCH, late), told, text)

    def test_and_or_not(self):
        for text, told in (
                (f"(and {CLOSED})", "[3, 7]"), (f"(or {CLOSED})", "[3, 7]"), (f"(not {CLOSED})", "[0, 3); (7, 10]"), (OPEN, "(3, 7)"),
                (f"(and {CLOSED} {OPEN})", "(3, 7)"), (f"(or {CLOSED} {OPEN})", "[3, 7]"), (f"(and {CLOSED} (not {OPEN}))", "[3, 3]; [7, 7]"),
                (f"(and {CLOSED} {PIERCED})", "[3, 4); (4, 7]"), (f"(or {PIERCED} {SINGLE})", "[0, 10]"), (f"(and {PIERCED} {SINGLE})", ""),
                (f"(and {CLOSED} {on(0, 5)} {on(4, 9)})", "[4, 5]"), (f"(or {CLOSED} {on(0, 1)} {on(9, 10)})", "[0, 1]; [3, 7]; [9, 10]"),
                (f"(and {CLOSED} {on(7, 9)})", "[7, 7]"), (f"(or {CLOSED} {on(7, 9)})", "[3, 9]"), (f"(or {OPEN} {on(7, 9)})", "(3, 9]"),
                (f"(not (not {OPEN}))", "(3, 7)"), (f"(not (and {CLOSED} {on(20, 30)}))", "[0, 10]"), (f"(or {on(20, 30)})", "")):
            self.assertEqual(going(text), told, text)


class Lengths(unittest.TestCase):
    def test_long(self):
        for length, rule, told in (
                ("0", CLOSED, "[3, 7]"), ("0", OPEN, "(3, 7)"), ("0", SINGLE, "[4, 4]"), ("0", PIERCED, "[0, 4); (4, 10]"),
                ("1", CLOSED, "[4, 7]"), ("1", OPEN, "(4, 7)"), ("1", SINGLE, ""), ("1", PIERCED, "[1, 4); (5, 10]"),
                # As long as it lasts, longer, longer than the WATCH.
                ("4", CLOSED, "[7, 7]"), ("4", OPEN, ""), ("3999/1000", OPEN, "(6999/1000, 7)"), ("4001/1000", CLOSED, ""),
                ("4", PIERCED, "(8, 10]"), ("6", PIERCED, ""), ("5999/1000", PIERCED, "(9999/1000, 10]"), ("11", CLOSED, ""),
                ("10", on(-5, 20), "[10, 10]"), ("10001/1000", on(-5, 20), ""), ("99", on(-5, 20), ""),
                # At the beginning of the WATCH.
                ("2", on(-5, 3), "[2, 3]"), ("3", on(-5, 3), "[3, 3]"), ("7/2", on(-5, 3), ""), ("1", on(0, 0), ""), ("0", on(0, 0), "[0, 0]"),
                ("1/2", f"(or {on(0, 1)} {on(2, 3)} {SINGLE})", "[1/2, 1]; [5/2, 3]")):
            self.assertEqual(going(f"(long {length} {rule})"), told, (length, rule))
        # What was so ahead of the WATCH doesn't count.
        self.assertEqual(held_text("(long 2 (in van (half 1 0 9)))", ((4, 1), (8, 1))), "[6, 8]")
        self.assertEqual(held_text("(long 4 (in van (half 1 0 9)))", ((4, 1), (8, 1))), "[8, 8]")
        self.assertEqual(held_text("(long 1 (in van (disc 5 0 2)))"), "[root 1 -12 34 low, root 1 -10 23 high]")

    def test_lately(self):
        for length, rule, told in (
                ("0", CLOSED, "[3, 7]"), ("0", OPEN, "(3, 7)"), ("0", SINGLE, "[4, 4]"), ("0", PIERCED, "[0, 4); (4, 10]"),
                ("1", CLOSED, "[3, 8]"), ("1", OPEN, "(3, 8)"), ("1", SINGLE, "[4, 5]"), ("1", PIERCED, "[0, 10]"),
                ("1/1000", PIERCED, "[0, 10]"), ("3", CLOSED, "[3, 10]"), ("3", OPEN, "(3, 10)"), ("5", OPEN, "(3, 10]"),
                ("99", SINGLE, "[4, 10]"), ("6", SINGLE, "[4, 10]"), ("5", SINGLE, "[4, 9]"), ("99", on(20, 30), ""),
                ("2", f"(or {on(0, 1)} {on(3, 4)})", "[0, 6]"), ("2", f"(or {on(0, 1)} (not (or {on(-9, 3)} {on(4, 19)})))", "[0, 6)"),
                ("1", f"(not (or {on(1, 2)} {on(3, 4)}))", "[0, 2); (2, 4); (4, 10]")):
            self.assertEqual(going(f"(lately {length} {rule})"), told, (length, rule))
        # What was so ahead of the WATCH doesn't count.
        self.assertEqual(held_text("(lately 2 (in van (half 1 0 3)))", ((4, 1), (8, 1))), "")
        self.assertEqual(held_text("(lately 2 (in van (half 1 0 5)))", ((4, 1), (8, 1))), "[4, 7]")

    def test_lately_leaves_a_gap_of_one_moment(self):
        first, last = f"(not (or {on(-9, 0)} {on(1, 19)}))", f"(not (or {on(-9, 3)} {on(4, 19)}))"
        self.assertEqual(going(f"(lately 2 (or {first} {last}))"), "(0, 3); (3, 6)")
        self.assertEqual(going(f"(not (lately 2 (or {first} {last})))"), "[0, 0]; [3, 3]; [6, 10]")

    def test_one_within_another(self):
        self.assertEqual(going(f"(long 1 (lately 1 {OPEN}))"), "(4, 8)")
        self.assertEqual(going(f"(lately 1 (long 1 {CLOSED}))"), "[4, 8]")
        self.assertEqual(going(f"(long 5 (lately 1 {CLOSED}))"), "[8, 8]")
        self.assertEqual(going(f"(lately 1 (long 4 {CLOSED}))"), "[7, 8]")
        self.assertEqual(going(f"(not (long 2 (not {SINGLE})))"), "[0, 2); [4, 6]")
        self.assertEqual(going(f"(long 2 (not (lately 1 {SINGLE})))"), "[2, 4); (7, 10]")


class Since(unittest.TestCase):
    def test_plain_ones(self):
        for one, other, told in (
                # It comes about at t itself; ahead of what lasts, within it, where that begins and ends.
                (on(5, 8), SINGLE, "[4, 4]"), (on(4, 8), SINGLE, "[4, 8]"), (on(3, 8), SINGLE, "[4, 8]"), (on(0, 4), SINGLE, "[4, 4]"),
                (on(0, 3), SINGLE, "[4, 4]"), (on(20, 30), SINGLE, "[4, 4]"), (CLOSED, on(1, 2), "[1, 2]"), (CLOSED, on(1, 3), "[1, 7]"),
                (CLOSED, on(8, 9), "[8, 9]"), (CLOSED, on(7, 9), "[7, 9]"), (CLOSED, on(6, 9), "[6, 9]"),
                # Ends that are not counted in.
                (OPEN, on(3, 3), "[3, 7)"), (OPEN, on(2, 3), "[2, 7)"), (OPEN, on(7, 7), "[7, 7]"), (OPEN, SINGLE, "[4, 7)"),
                (CLOSED, f"(not (or {on(-9, 1)} {on(3, 19)}))", "(1, 3)"), (on(0, 9), OPEN, "(3, 9]"), (PIERCED, on(1, 1), "[1, 4)"),
                (PIERCED, on(1, 4), "[1, 10]"), (PIERCED, SINGLE, "[4, 10]"), (PIERCED, f"(not (or {on(-9, 1)} {on(4, 19)}))", "(1, 4)"),
                (SINGLE, on(3, 3), "[3, 3]"), (SINGLE, on(4, 4), "[4, 4]"), (SINGLE, f"(and {OPEN} {PIERCED})", "(3, 4); (4, 7)"),
                # Nothing came about; all along.
                (CLOSED, on(20, 30), ""), (on(20, 30), on(20, 30), ""), (on(-9, 20), on(0, 0), "[0, 10]"), (on(-9, 20), CLOSED, "[3, 10]"),
                (on(-9, 20), on(10, 10), "[10, 10]"), (f"(not {on(5, 6)})", f"(or {on(1, 1)} {SINGLE} {on(8, 8)})", "[1, 5); [8, 10]")):
            self.assertEqual(going(f"(since {one} {other})"), told, (one, other))

    def test_what_came_about_ahead_of_the_watch(self):
        for watch, told in (((0, 10), "[3, 10]"), ((4, 10), "[4, 10]"), ((8, 10), ""), ((7, 10), "[7, 10]"), ((0, 3), "[3, 3]"), ((0, 2), "")):
            watch = (number(watch[0]), number(watch[1]))
            self.assertEqual(held_text("(since (in van (half 0 1 0)) (in van (disc 5 0 4)))", watch), told)

    def test_within_another(self):
        self.assertEqual(going(f"(since (not {on(8, 9)}) (since {CLOSED} {SINGLE}))"), "[4, 8)")
        self.assertEqual(going(f"(long 3 (since {CLOSED} {SINGLE}))"), "[7, 7]")
        self.assertEqual(going(f"(not (since {PIERCED} {on(1, 1)}))"), "[0, 1); [4, 10]")


class HeldAt(unittest.TestCase):
    def test_at_ends_roots_and_fractions(self):
        small = ("in", "van", ("disc", ((5, 1), (0, 1)), (2, 1)))
        low, high = (1, -10, 23, -1), (1, -10, 23, 1)
        for rule, moment, told in (
                (small, low, True), (small, high, True), (("not", small), low, False), (("not", small), high, False),
                (INSIDE, low, True), (INSIDE, (3, 1), True), (INSIDE, (0, 1), False), (INSIDE, (10, 1), False),
                (("not", INSIDE), (3, 1), False), (("not", INSIDE), (10, 1), True), (("long", (2, 1), INSIDE), low, False),
                (("long", (2, 1), INSIDE), high, True), (("long", (2, 1), INSIDE), (5, 1), True),
                (("lately", (2, 1), INSIDE), (9, 1), True), (("lately", (2, 1), INSIDE), (9001, 1000), False),
                (("since", EAST, INSIDE), (10, 1), True), (("near", "van", "cart", (0, 1)), (6, 1), True),
                (("near", "van", "cart", (0, 1)), (1, -12, 34, 1), False), (("near", "van", "cart", (2, 1)), (1, -12, 34, 1), True)):
            self.assertIs(held_at(rule, THINGS, WATCH, moment), told, (rule, moment))

    def test_beyond_the_watch(self):
        for moment in ((-1, 1), (11, 1), (-1, 10 ** 6), (1, 0, -2, -1), (1, 0, -101, 1)):
            self.assertEqual(refused(held_at, INSIDE, THINGS, WATCH, moment), ("NotThen", moment))
        self.assertIs(held_at(INSIDE, THINGS, ((-9, 1), (20, 1)), (11, 1)), False)
        self.assertIs(held_at(("not", INSIDE), THINGS, ((-9, 1), (20, 1)), (1, 0, -2, -1)), True)
        self.assertEqual(refused(held_at, INSIDE, THINGS, ((4, 1), (5, 1)), (6, 1)), ("NotThen", (6, 1)))


class Errors(unittest.TestCase):
    def test_the_least_name_that_no_thing_has(self):
        for text, name in (("(in bus (half 1 0 0))", "bus"), ("(near van bus 1)", "bus"), ("(near bus van 1)", "bus"),
                           ("(near zoo bus 1)", "bus"), ("(and (in zoo (half 1 0 0)) (in van (half 1 0 0)) (in ant (half 1 0 0)))", "ant"),
                           ("(since (in van (half 1 0 0)) (long 1 (near cart vans 1)))", "vans"), ("(not (in va (half 1 0 0)))", "va"),
                           ("(or (in b9 (half 1 0 0)) (in b10 (half 1 0 0)))", "b10")):
            self.assertEqual(refused(held, read_rule(text), THINGS, WATCH), ("NoThing", name))
            self.assertEqual(refused(held_at, read_rule(text), THINGS, WATCH, (1, 1)), ("NoThing", name))

    def test_their_sequence(self):
        unknown = ("in", "bus", DISC)
        for values, told in (((None, None, None, None), ("BadRule", None)), ((unknown, 1, 2, 3), ("BadThings", 1)),
                             ((unknown, THINGS, 2, 3), ("BadWatch", 2)), ((unknown, THINGS, WATCH, 3), ("NoThing", "bus")),
                             ((INSIDE, THINGS, WATCH, 3), ("BadMoment", 3)), ((INSIDE, THINGS, WATCH, (11, 1)), ("NotThen", (11, 1)))):
            self.assertEqual(refused(held_at, *values), told)
            if told[0] not in ("BadMoment", "NotThen"):
                self.assertEqual(refused(held, *values[:3]), told)


class Many(unittest.TestCase):
    def test_moment_by_moment(self):
        chance = random.Random(3)
        names, unit, many = ["a", "b", "c"], Fraction(1, 2), 0
        for _ in range(220):
            things = tuple([(name, random_way(chance)) for name in names])
            watch = (number(chance.randint(-2, 1)), number(chance.randint(2, 7)))
            leaves = [random_leaf(chance, names) for _ in range(4)]
            rule = random_rule(chance, chance.randint(2, 4), names, leaves, unit)
            if refused(rule_text, rule) != ("BadRule", rule):
                model = Model([rule], things, watch, unit)
                told = held(rule, things, watch)
                self.assertEqual(told, model.told(rule), (rule, things, watch))
                many += len(told)
        self.assertGreater(many, 120)

    def test_each_leaf_is_what_during_and_near_tell_within_the_watch(self):
        chance = random.Random(4)
        for _ in range(60):
            things = (("a", random_way(chance, 12)), ("b", random_way(chance, 12)))
            ways, watch = dict(things), (number(chance.randint(-2, 1)), number(chance.randint(2, 7)))
            for rule in [random_leaf(chance, ["a", "b"]) for _ in range(4)]:
                whole = during(rule[2], ways[rule[1]]) if rule[0] == "in" else near(ways[rule[1]], ways[rule[2]], rule[3])
                told = held(rule, things, watch)
                for n in range(-6, 17):
                    moment = number(Fraction(n, 2))
                    within = order_of(watch[0], moment) <= 0 <= order_of(watch[1], moment)
                    self.assertIs(has(told, moment), within and has(whole, moment))


class Things(unittest.TestCase):
    def things(self, names):
        return tuple([(name, VAN) for name in names])

    def test_one_to_six_with_names_that_ascend(self):
        rule = ("near", "f", "f", (0, 1))
        for names in ("f", "af", "abcdef", ["f", "f1", "fa"], ["a", "abcdefgh", "f"], ["a9", "f"]):
            self.assertEqual(held(rule, self.things(names), WATCH), (((0, 1), True, (10, 1), True),))
        for names in ("", "fa", "ff", "abcdefg", "aff", ["f", "F"], ["", "f"], ["9", "f"], ["abcdefghi", "f"], ["a-", "f"],
                      ["a ", "f"], ["f", "fa", "f1"], ["_a", "f"], ["a\n", "f"]):
            shown = self.things(names)
            self.assertEqual(refused(held, rule, shown, WATCH), ("BadThings", shown))
