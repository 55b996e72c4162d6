"""Point 15, guarantee (h): deeds by lines, undo and redo, trials, copies, equal Benches."""
import random
import unittest

from crossingstold.benches import Bench
from crossingstold.errors import BadFraction, WatchError
from crossingstold.events import events
from crossingstold.journals import journal, read_journal
from crossingstold.keeping import Post
from crossingstold.rules import read_rule
from tests.helpers import NEVER, refused, spot
from tests.test_conventions import NO_WATCHES

WATCH = ((0, 1), (10, 1))
LINES = ["put van 10 10 0", "put van 0 0 0", "add in (in van (disc 5 0 4))", "put cart 2 6 0", "put cart 8 6 0", "add near (near van cart 1/4)", "put van 5 5 0",
         "correct 4 5 5 3", "take 4", "drop near"]


def bench_of(*lines, watch=WATCH):
    """A Bench on which this was done."""
    bench = Bench(watch)
    for line in lines:
        bench.do(line)
    return bench


def all_of(bench):
    """All that a Bench is: what stands, what can be undone and what done again."""
    rows = []
    for step in ("undo", "redo"):
        twin = bench.copy()
        while refused(getattr(twin, step)) is None:
            rows.append((step, twin.deeds, len(twin), twin.post().reports, twin.post().rules, twin.post() == twin.post().copy(), journal(twin)))
    return (bench.watch, bench.deeds, len(bench), bench.post().reports, bench.post().rules, bench.post().things, journal(bench), rows)


class Odd(Exception):
    """An error that is none of the package's."""


class Deeds(unittest.TestCase):
    def test_each_of_the_five_lines(self):
        bench, post = Bench(WATCH), Post(WATCH)
        told = []
        for line, deed in zip(LINES, (
                lambda: post.put("van", ((10, 1), spot(10, 0))), lambda: post.put("van", ((0, 1), spot(0, 0))), lambda: post.add("in", read_rule("(in van (disc 5 0 4))")),
                lambda: post.put("cart", ((2, 1), spot(6, 0))), lambda: post.put("cart", ((8, 1), spot(6, 0))), lambda: post.add("near", ("near", "van", "cart", (1, 4))),
                lambda: post.put("van", ((5, 1), spot(5, 0))), lambda: post.correct(4, ((5, 1), spot(5, 3))), lambda: post.take(4), lambda: post.drop("near"))):
            self.assertIsNone(bench.do(line))
            deed()
            self.assertEqual(bench.post(), post)
            self.assertEqual([bench.watch, len(bench), bench.deeds], [WATCH, len(post.reports), len(told) + 1])
            told.append(line)
            self.assertEqual(journal(bench), "\n".join(["watch 0 10", "deeds", *told]))

    def test_fractions_and_names(self):
        bench = bench_of("put a 1/2 -3/4 0", "put z9876543 -7 22/7 -1/3", "correct 1 0 0 -9/2", "add longname (long 1/2 (near a z9876543 9/4))")
        self.assertEqual(bench.post().reports, ((0, "a", ((1, 2), ((-3, 4), (0, 1)))), (1, "z9876543", ((0, 1), ((0, 1), (-9, 2))))))
        self.assertEqual(bench.post().rules, (("longname", ("long", (1, 2), ("near", "a", "z9876543", (9, 4)))),))

    def test_the_names_of_deeds_may_be_names(self):
        bench = bench_of("put put 0 0 0", "put take 1 1 1", "add add (near put take 1)", "add drop (in put (half 1 0 0))", "drop drop", "put undo 3 3 3")
        self.assertEqual([name for name, _ in bench.post().rules], ["add"])

    def test_lines_that_are_none(self):
        bench = bench_of(*LINES[:6])
        bench.undo()
        before = all_of(bench)
        for line in [value for value in NEVER if not isinstance(value, str)] + [b"take 0", ["take 0"], ("take", 0)] + [
                "", " ", "put", "take", "drop", "add", "correct", "put van", "put van 1", "put van 1 2", "put van 1 2 3 4", "put 1 2 3", "put van  1 2 3", " put van 1 2 3",
                "put van 1 2 3 ", "put  van 1 2 3", "put van 1 2  3", "put\tvan 1 2 3", "put van\t1 2 3", "put van 1 2 3\n", "put van 1\n2 3", "\nput van 1 2 3", "Put van 1 2 3",
                "PUT van 1 2 3", "put Van 1 2 3", "put 1van 1 2 3", "put ninesigns 1 2 3", "put va_n 1 2 3", "put van 2/4 2 3", "put van 1 2/1 3", "put van 1 2 +3", "put van +1 2 3",
                "put van 01 2 3", "put van 1 -0 3", "put van 1 2 3/0", "put van 1 2 3/-1", "put van 1 1.5 3", "put van 1 2 x", "put van root 1 0 -2 high 2 3", "put van 1 2 1e3",
                "put van (1 2 3)", "put van 1, 2, 3", "put van 1 2 0/5", "put van 1 2 -", "put van / 2 3", "putvan 1 2 3", "pu van 1 2 3",
                "take -1", "take 01", "take +1", "take 0 0", "take  0", "take 0 ", " take 0", "take 1/2", "take 0.0", "take x", "take van", "take 0\n", "Take 0", "take -0", "take 4/1",
                "correct 0 1 2", "correct 0 1 2 3 4", "correct -1 1 2 3", "correct 00 1 2 3", "correct van 1 2 3", "correct 0 2/4 2 3", "correct 0  1 2 3", "correct 0 1 2 3 ",
                "correct 1 2 3", "Correct 0 1 2 3",
                "add (near a b 1)", "add x", "add x ", "add x near a b 1", "add X (near a b 1)", "add x  (near a b 1)", "add x (near a b 1) ", " add x (near a b 1)", "add  x (near a b 1)",
                "add x (near a b -1)", "add x (near a b 2/4)", "add x (in a (half 0 0 1))", "add x (not)", "add x (and)", "add x ((near a b 1))", "add x (near a b 1) (near a b 1)",
                "add x (near a b 1))", "add x (near  a b 1)", "add x (disc 0 0 1)", "add x (near a b\n1)", "add x " + "(not " * 8 + "(near a b 1)" + ")" * 8, "add ninesigns (near a b 1)",
                "add x " + "(not " * 3000 + "(near a b 1)" + ")" * 3000, "add x (and " + "(near a b 1) " * 8 + "(near a b 1))",
                "drop", "drop ", "drop X", "drop in in", "drop  in", "drop in ", " drop in", "drop\tin", "drop in\n", "Drop in", "drop (in)", "drop 0", "drop ninesigns",
                "undo", "redo", "held in", "events", "next 3", "holding 3", "watch 0 10", "deeds", "do", "keep", "put van 1 2 3\nput van 2 3 4"]:
            with self.assertRaises(WatchError) as caught:
                bench.do(line)
            self.assertEqual(type(caught.exception).__name__, "BadTask", line)
            self.assertIs(caught.exception.value, line)
        self.assertEqual(all_of(bench), before)

    def test_what_the_post_raises(self):
        bench = bench_of("put van 0 0 0", "put van 1 0 0", "add in (in van (disc 5 0 4))", "take 0")
        for line, told in (("put van 1 5 5", ("Taken", (1, 1))), ("take 0", ("NoReport", 0)), ("take 2", ("NoReport", 2)), ("take 999999999", ("NoReport", 999999999)),
                           ("correct 0 5 5 5", ("NoReport", 0)), ("add in (near van van 1)", ("Taken", "in")), ("drop out", ("NoRule", "out")), ("drop van", ("NoRule", "van"))):
            before = all_of(bench)
            self.assertEqual(refused(bench.do, line), told)
            self.assertEqual(all_of(bench), before)
        bench.do("put van 3/2 0 0")
        self.assertEqual(refused(bench.do, "correct 2 1 5 5"), ("Taken", (1, 1)))
        full = bench_of(*[f"put van {n} 0 0" for n in range(12)], *[f"put n{n} 0 0 0" for n in range(5)], *[f"add r{n} (near van van 1)" for n in range(12)])
        for line, told in (("put van 12 0 0", ("Full", "van")), ("put van 3 0 0", ("Taken", (3, 1))), ("put new 0 0 0", ("Full", "new")), ("add r12 (near van van 1)", ("Full", "r12")),
                           ("add r3 (near van van 1)", ("Taken", "r3")), ("put New 0 0 0", ("BadTask", "put New 0 0 0"))):
            self.assertEqual(refused(full.do, line), told)
        self.assertEqual([full.deeds, len(full)], [29, 17])

    def test_refused_lines_take_nothing_away_from_what_can_be_done_again(self):
        bench = bench_of(*LINES)
        bench.undo()
        bench.undo()
        before = all_of(bench)
        for line in ("what", "take 99", "add in (near van cart 1)", None, "put van 0 9 9"):
            refused(bench.do, line)
        self.assertEqual(all_of(bench), before)
        bench.redo()
        bench.redo()
        self.assertEqual(bench, bench_of(*LINES))
        self.assertEqual(refused(bench.redo), ("NothingToRedo", None))

    def test_wrong_watches(self):
        for wrong in NO_WATCHES:
            with self.assertRaises(WatchError) as caught:
                Bench(wrong)
            self.assertEqual(type(caught.exception).__name__, "BadWatch")
            self.assertIs(caught.exception.value, wrong)

    def test_the_post_stands_by_itself_with_work_0(self):
        bench = bench_of(*LINES[:6])
        post = bench.post()
        self.assertIsInstance(post, Post)
        post.events()
        self.assertEqual([post.work, bench.post().work], [2, 0])
        post.take(0)
        post.drop("in")
        self.assertEqual([len(bench), bench.deeds, len(bench.post().rules), len(bench.post().reports)], [4, 6, 2, 4])
        bench.do("take 3")
        self.assertEqual([len(post.reports), len(bench.post().reports)], [3, 3])
        self.assertEqual([row[0] for row in post.reports], [1, 2, 3])
        self.assertIsNot(bench.post(), bench.post())


class UndoAndRedo(unittest.TestCase):
    def test_back_to_nothing_and_forth_again(self):
        bench, stands = Bench(WATCH), []
        for line in LINES:
            stands.append((bench.deeds, len(bench), journal(bench), bench.post()))
            bench.do(line)
        stands.append((bench.deeds, len(bench), journal(bench), bench.post()))
        for told in reversed(stands[:-1]):
            self.assertIsNone(bench.undo())
            self.assertEqual((bench.deeds, len(bench), journal(bench), bench.post()), told)
        self.assertEqual(bench, Bench(WATCH))
        for told in stands[1:]:
            self.assertIsNone(bench.redo())
            self.assertEqual((bench.deeds, len(bench), journal(bench), bench.post()), told)
        self.assertEqual(refused(bench.redo), ("NothingToRedo", None))

    def test_nothing_to_undo_or_redo(self):
        bench = Bench(WATCH)
        self.assertEqual([refused(bench.undo), refused(bench.redo)], [("NothingToUndo", None), ("NothingToRedo", None)])
        bench.do(LINES[0])
        self.assertEqual(refused(bench.redo), ("NothingToRedo", None))
        bench.undo()
        self.assertEqual(refused(bench.undo), ("NothingToUndo", None))
        bench.redo()
        self.assertEqual(refused(bench.redo), ("NothingToRedo", None))
        self.assertEqual(bench, bench_of(LINES[0]))

    def test_a_deed_amid_them(self):
        bench = bench_of(*LINES[:4])
        bench.undo()
        bench.undo()
        bench.do("put dog 1 1 1")
        self.assertEqual(refused(bench.redo), ("NothingToRedo", None))
        self.assertEqual(bench, bench_of(LINES[0], LINES[1], "put dog 1 1 1"))
        bench.undo()
        bench.redo()
        self.assertEqual(bench.post().reports[-1], (2, "dog", ((1, 1), spot(1, 1))))

    def test_the_numbers_of_reports_behind_an_undone_put(self):
        bench = bench_of(*LINES[:2])
        bench.do("put van 3 3 3")
        bench.undo()
        bench.do("put van 4 4 4")
        self.assertEqual([row[0] for row in bench.post().reports], [0, 1, 2])
        bench.do("take 2")
        bench.do("put van 4 4 5")
        self.assertEqual([row[0] for row in bench.post().reports], [0, 1, 3])
        bench.undo()
        self.assertEqual(refused(bench.do, "take 3"), ("NoReport", 3))
        bench.undo()
        self.assertEqual([row[0] for row in bench.post().reports], [0, 1, 2])
        self.assertEqual(bench.post(), bench_of(LINES[0], LINES[1], "put van 4 4 4").post())


class Trials(unittest.TestCase):
    def trial(self, bench, kept):
        """A look that changes a lot, and keeps it, or doesn't, by bench.keep()."""
        def look(given):
            self.assertIs(given, bench)
            given.undo()
            given.do("put dog 9 9 9")
            given.do("put dog 8 9 9")
            given.undo()
            if kept:
                self.assertIsNone(given.keep())
            return ("told", len(given))
        return look

    def behind(self):
        """As the bench is behind this trial, if it is kept."""
        bench = bench_of(*LINES[:4])
        bench.undo()
        bench.do("put dog 9 9 9")
        bench.do("put dog 8 9 9")
        bench.undo()
        return all_of(bench)

    def test_kept_by_the_parameter_by_keep_by_neither(self):
        for keep, kept in ((True, False), (True, True), (False, True), (1, True)):
            bench = bench_of(*LINES[:4])
            self.assertEqual(bench.tried(self.trial(bench, kept), keep=keep), ("told", 3))
            self.assertEqual(all_of(bench), self.behind())
            self.assertEqual(refused(bench.keep), ("NoBlock", None))
        for keep in (False, None, 0, 1, "yes", (1,), [True], (True,), {1: True}, 2, "True", object(), 1.0):
            bench = bench_of(*LINES[:4])
            bench.undo()
            before = all_of(bench)
            self.assertEqual(bench.tried(self.trial(bench, False), keep=keep), ("told", 3))
            self.assertEqual(all_of(bench), before)
            self.assertEqual(refused(bench.keep), ("NoBlock", None))
        bench = bench_of(*LINES[:4])
        before = all_of(bench)
        self.assertEqual(bench.tried(self.trial(bench, False)), ("told", 3))
        self.assertEqual(all_of(bench), before)

    def test_errors_pass_on_and_leave_nothing(self):
        for error in (BadFraction(7), Odd("x"), KeyError(1), StopIteration(), SystemExit(3)):
            for kept in (False, True):
                for keep in (False, True):
                    bench = bench_of(*LINES[:4])
                    bench.undo()
                    before = all_of(bench)

                    def look(given):
                        self.trial(bench, kept)(given)
                        raise error
                    with self.assertRaises(type(error)) as caught:
                        bench.tried(look, keep=keep)
                    self.assertIs(caught.exception, error)
                    self.assertEqual(all_of(bench), before)
                    self.assertEqual(refused(bench.keep), ("NoBlock", None))

    def test_errors_that_look_catches_are_none_of_it(self):
        bench = bench_of(*LINES[:4])

        def look(given):
            refused(given.do, "what")
            refused(given.undo)
            refused(given.redo)
            refused(given.redo)
            given.do("put dog 9 9 9")
        self.assertIsNone(bench.tried(look, keep=True))
        self.assertEqual(all_of(bench), all_of(bench_of(*LINES[:4], "put dog 9 9 9")))

    def test_trials_in_trials(self):
        for inner_keep in (False, True):
            for outer_keep in (False, True):
                for by_call in (False, True):
                    bench = bench_of(*LINES[:2])

                    def inner(given):
                        given.do("put dog 9 9 9")
                        if by_call and inner_keep:
                            given.keep()
                        return "inner"

                    def outer(given):
                        given.do("put cart 1 1 1")
                        self.assertEqual(given.tried(inner, keep=inner_keep and not by_call), "inner")
                        self.assertEqual([given.deeds, len(given)], [4, 4] if inner_keep else [3, 3])
                        given.do("put cart 2 2 2")
                        if by_call and outer_keep:
                            given.keep()
                        return "outer"
                    self.assertEqual(bench.tried(outer, keep=outer_keep and not by_call), "outer")
                    told = LINES[:2]
                    if outer_keep:
                        told = told + ["put cart 1 1 1"] + ["put dog 9 9 9"] * inner_keep + ["put cart 2 2 2"]
                    self.assertEqual(all_of(bench), all_of(bench_of(*told)))
                    self.assertEqual(refused(bench.keep), ("NoBlock", None))

    def test_keep_is_of_the_innermost_trial_alone(self):
        bench = Bench(WATCH)

        def outer(given):
            given.do(LINES[0])
            given.tried(lambda one: (one.do(LINES[1]), one.keep()))
        bench.tried(outer)
        self.assertEqual(all_of(bench), all_of(Bench(WATCH)))

        def ahead(given):
            given.keep()
            given.do(LINES[0])
            given.tried(lambda one: one.do(LINES[1]))
            given.do(LINES[3])
        bench.tried(ahead)
        self.assertEqual(all_of(bench), all_of(bench_of(LINES[0], LINES[3])))

        def behind(given):
            given.tried(lambda one: one.do(LINES[1]))
            given.keep()
            given.keep()
        bench.tried(behind)
        self.assertEqual(bench.deeds, 2)

    def test_an_error_in_an_inner_trial(self):
        bench = bench_of(*LINES[:2])

        def inner(given):
            given.do("put dog 9 9 9")
            given.keep()
            given.do("what")

        def outer(given):
            given.do("put cart 1 1 1")
            self.assertEqual(refused(given.tried, inner), ("BadTask", "what"))
            self.assertEqual(given.deeds, 3)
            given.keep()
        bench.tried(outer)
        self.assertEqual(all_of(bench), all_of(bench_of(*LINES[:2], "put cart 1 1 1")))
        self.assertEqual(refused(bench.tried, lambda given: given.tried(inner, keep=True), keep=True), ("BadTask", "what"))
        self.assertEqual(all_of(bench), all_of(bench_of(*LINES[:2], "put cart 1 1 1")))

    def test_undo_and_redo_go_on_to_what_was_done_ahead(self):
        bench = bench_of(*LINES[:4])
        bench.undo()
        before = all_of(bench)

        def look(given):
            given.redo()
            self.assertEqual(given.deeds, 4)
            for _ in range(4):
                given.undo()
            self.assertEqual([refused(given.undo), len(given)], [("NothingToUndo", None), 0])
            given.redo()
            return given.deeds
        self.assertEqual(bench.tried(look), 1)
        self.assertEqual(all_of(bench), before)
        self.assertEqual(bench.tried(look, keep=True), 1)
        self.assertEqual([bench.deeds, len(bench)], [1, 1])
        for _ in range(3):
            bench.redo()
        self.assertEqual(bench, bench_of(*LINES[:4]))
        bench.tried(lambda given: given.undo(), keep=True)
        bench.redo()
        self.assertEqual(bench, bench_of(*LINES[:4]))

    def test_no_block_outside(self):
        bench = Bench(WATCH)
        self.assertEqual(refused(bench.keep), ("NoBlock", None))
        bench.tried(len, keep=True)
        self.assertEqual(refused(bench.keep), ("NoBlock", None))
        # One bench's trial is none of another one.
        other = Bench(WATCH)
        self.assertEqual(bench.tried(lambda given: refused(other.keep)), ("NoBlock", None))
        self.assertEqual(bench.tried(lambda given: other.tried(lambda one: refused(bench.keep))), None)

    def test_copies_made_within_a_trial_are_outside_of_all(self):
        bench, copies = bench_of(*LINES[:2]), []

        def look(given):
            given.do("put dog 9 9 9")
            copies.append(given.copy())
            self.assertEqual(refused(copies[0].keep), ("NoBlock", None))
            copies[0].do("put dog 8 8 8")
            given.do("put cow 9 9 9")
        bench.tried(look)
        self.assertEqual(all_of(copies[0]), all_of(bench_of(*LINES[:2], "put dog 9 9 9", "put dog 8 8 8")))
        self.assertEqual(all_of(bench), all_of(bench_of(*LINES[:2])))

    def test_what_look_returns_is_returned(self):
        bench = Bench(WATCH)
        for value in [*NEVER, bench]:
            self.assertIs(bench.tried(lambda given: value), value)


class CopiesAndEquality(unittest.TestCase):
    def test_copies_go_apart(self):
        bench = bench_of(*LINES)
        bench.undo()
        bench.undo()
        twin = bench.copy()
        self.assertIsInstance(twin, Bench)
        self.assertEqual([twin == bench, all_of(twin) == all_of(bench)], [True, True])
        twin.redo()
        self.assertEqual([twin == bench, bench.deeds, twin.deeds], [False, 8, 9])
        bench.redo()
        self.assertTrue(twin == bench)
        bench.do("put dog 1 1 1")
        self.assertEqual([refused(bench.redo), refused(twin.redo)], [("NothingToRedo", None), None])
        twin.undo()
        twin.undo()
        self.assertEqual([bench.deeds, twin.deeds], [10, 8])

    def test_equal_just_if_their_journals_are(self):
        self.assertTrue(bench_of(*LINES) == bench_of(*LINES))
        self.assertFalse(bench_of(*LINES) != bench_of(*LINES))
        self.assertFalse(bench_of(*LINES) == bench_of(*LINES[:-1]))
        self.assertFalse(Bench(WATCH) == Bench(((0, 1), (11, 1))))
        undone = bench_of(*LINES)
        undone.undo()
        self.assertTrue(undone == bench_of(*LINES[:-1]))
        # The same reports and rules stand, but by other deeds.
        one, other = bench_of("put van 0 0 0", "correct 0 1 1 1"), bench_of("put van 1 1 1")
        self.assertEqual([one.post() == other.post(), one == other], [True, False])
        for value in [*NEVER, WATCH, Post(WATCH), journal(undone), Bench, Bench(WATCH).post()]:
            self.assertFalse(undone == value)
            self.assertTrue(undone != value)
            self.assertFalse(Bench(WATCH) == value)


class Model:
    """A Bench again: the deeds that stand, and those that can be done again, as plain lists."""

    def __init__(self):
        self.done, self.undone = [], []

    def change(self, word, line=None):
        """Does one step; what it raises, if anything."""
        if word == "do":
            try:
                bench_of(*self.done, line)
            except WatchError as error:
                return (type(error).__name__, error.value)
            self.done, self.undone = self.done + [line], []
        elif word == "undo":
            if not self.done:
                return ("NothingToUndo", None)
            self.done, self.undone = self.done[:-1], self.undone + [self.done[-1]]
        elif not self.undone:
            return ("NothingToRedo", None)
        else:
            self.done, self.undone = self.done + [self.undone[-1]], self.undone[:-1]


def random_line(chance):
    """The line of a deed that may be refused."""
    n, moment = chance.randint(0, 12), chance.choice(["0", "1", "3/2", "4", "7", "10", "-2"])
    name = chance.choice(["van", "cart", "dog"])
    return chance.choice([f"put {name} {moment} {n} {n - 5}", f"put {name} {moment} {n}/7 1", f"take {n}", f"correct {n} {moment} 1 {n}", "add in (in van (disc 5 0 4))",
                          "add near (near van cart 4)", f"drop {chance.choice(['in', 'near'])}", "what", f"take {n}", f"put {name} 5 {n} 0"])


class Long(unittest.TestCase):
    def walk(self, chance, bench, model, many, deep):
        """Some steps on both, with trials within."""
        for _ in range(many):
            word = chance.choice(["do", "do", "do", "undo", "undo", "redo", "tried"])
            if word == "do":
                line = random_line(chance)
                self.assertEqual(refused(bench.do, line), model.change("do", line))
            elif word != "tried":
                self.assertEqual(refused(getattr(bench, word)), model.change(word))
            elif deep < 3:
                self.trial(chance, bench, model, deep)
            self.check(bench, model)

    def trial(self, chance, bench, model, deep):
        """A trial that is kept by this or that, or not, or ends in an error."""
        before = (model.done, model.undone)
        keep, call, error = chance.choice([True, False, 1]), chance.random() < 0.4, chance.random() < 0.3

        def look(given):
            if call and chance.random() < 0.5:
                given.keep()
            self.walk(chance, given, model, chance.randint(0, 5), deep + 1)
            if call:
                given.keep()
            if error:
                raise Odd
            return "told"
        if error:
            self.assertRaises(Odd, bench.tried, look, keep=keep)
        else:
            self.assertEqual(bench.tried(look, keep=keep), "told")
        if error or not (call or keep is True):
            model.done, model.undone = before
        self.assertEqual(refused(bench.keep), ("NoBlock", None)) if deep == 0 else None

    def check(self, bench, model):
        """That both stand alike."""
        self.assertEqual(journal(bench), "\n".join(["watch 0 10", "deeds", *model.done]))
        self.assertEqual([bench.deeds, len(bench)], [len(model.done), len(bench.post().reports)])

    def test_long_rows_of_deeds_undo_redo_and_trials(self):
        chance = random.Random(61)
        most = 0
        for _ in range(12):
            bench, model = Bench(WATCH), Model()
            self.walk(chance, bench, model, 50, 0)
            anew = bench_of(*model.done)
            self.assertEqual([bench == anew, bench.post() == anew.post(), read_journal(journal(bench)) == bench], [True, True, True])
            post = bench.post()
            self.assertEqual(refused(post.events), refused(events, post.rules, post.things, WATCH))
            for line in reversed(model.undone):
                bench.redo()
                anew.do(line)
                self.assertEqual(bench, anew)
            most = max(most, bench.deeds)
        self.assertGreater(most, 10)


if __name__ == "__main__":
    unittest.main()
