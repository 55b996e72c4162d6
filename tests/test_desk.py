"""Point 15: a desk, its lines and their answers."""
import random
import unittest

from crossingstold.benches import Bench
from crossingstold.desk import Desk
from crossingstold.errors import WatchError
from crossingstold.events import event_text, holding, next_event
from crossingstold.journals import journal, read_journal
from crossingstold.moments import read_moment
from crossingstold.stretches import stretches_text
from tests.helpers import NEVER, refused
from tests.test_benches import LINES, WATCH, bench_of, random_line

TEXT = "watch 0 10\ndeeds\n" + "\n".join(LINES[:6])
BARE = "watch 0 10\ndeeds"


class Deeds(unittest.TestCase):
    def test_deeds_undo_and_redo(self):
        desk, bench = Desk(BARE), Bench(WATCH)
        self.assertIsInstance(desk.bench, Bench)
        for line in LINES:
            self.assertEqual(desk.say(line), "done")
            bench.do(line)
            self.assertTrue(desk.bench == bench)
        for _ in LINES:
            self.assertEqual(desk.say("undo"), "done")
        self.assertEqual([refused(desk.say, "undo"), desk.bench.deeds], [("NothingToUndo", None), 0])
        for _ in LINES:
            self.assertEqual(desk.say("redo"), "done")
        self.assertEqual([refused(desk.say, "redo"), desk.bench == bench], [("NothingToRedo", None), True])

    def test_the_bench_is_the_very_one(self):
        desk = Desk(TEXT)
        bench = desk.bench
        self.assertEqual(desk.say("put van 5 5 5"), "done")
        self.assertIs(desk.bench, bench)
        self.assertEqual([bench.deeds, len(bench)], [7, 5])
        bench.undo()
        self.assertEqual(desk.say("held in"), "[3, 7]")
        self.assertEqual(desk.say("redo"), "done")
        bench.do("drop in")
        self.assertEqual(refused(desk.say, "held in"), ("NoRule", "in"))
        told = bench.tried(lambda given: (desk.say("undo"), desk.say("undo"), desk.say("held in")))
        self.assertEqual(told, ("done", "done", "[3, 7]"))
        self.assertEqual(refused(desk.say, "held in"), ("NoRule", "in"))
        self.assertIs(desk.bench, bench)

    def test_within_a_trial(self):
        desk = Desk(TEXT)

        def look(bench):
            self.assertIs(bench, desk.bench)
            return [desk.say("drop near"), desk.say("undo"), desk.say("undo"), desk.say("held in")]
        self.assertEqual(desk.bench.tried(look), ["done", "done", "done", "[3, 7]"])
        self.assertEqual([desk.say("held near"), journal(desk.bench)], ["[11/2, 13/2]", TEXT])

    def test_a_journal_that_is_none(self):
        for text, told in ((None, 0), (b"", 0), ("", 1), ("watch 0 10", 2), (BARE + "\n", 3), (TEXT + "\nheld in", 9), (TEXT + "\nundo", 9), (BARE + "\ntake 0", 3), (1, 0)):
            self.assertEqual(refused(Desk, text), ("BadJournal", told))
        for value in NEVER:
            if not isinstance(value, str):
                self.assertEqual(refused(Desk, value), ("BadJournal", 0))


class Answers(unittest.TestCase):
    def test_held(self):
        desk = Desk(TEXT)
        self.assertEqual([desk.say("held in"), desk.say("held near")], ["[3, 7]", "[11/2, 13/2]"])
        desk.say("add two (in van (disc 5 0 2))")
        self.assertEqual(desk.say("held two"), "[root 1 -10 23 low, root 1 -10 23 high]")
        desk.say("add out (not (in van (disc 5 0 4)))")
        self.assertEqual(desk.say("held out"), "[0, 3); (7, 10]")
        desk.say("add none (in van (disc 5 9 4))")
        self.assertEqual(desk.say("held none"), "none")
        self.assertEqual([refused(desk.say, "held what"), refused(desk.say, "held van")], [("NoRule", "what"), ("NoRule", "van")])

    def test_events(self):
        desk = Desk(TEXT)
        self.assertEqual(desk.say("events"), "in begins in 3; near begins in 11/2; near ends in 13/2; in ends in 7")
        desk.say("drop in")
        desk.say("drop near")
        self.assertEqual(desk.say("events"), "none")
        desk.say("add none (in van (disc 5 9 4))")
        self.assertEqual(desk.say("events"), "none")

    def test_next_and_holding(self):
        desk = Desk(TEXT)
        for moment, told, names in (("0", "in begins in 3", "none"), ("3", "near begins in 11/2", "in"), ("-5", "in begins in 3", "none"), ("11/2", "near ends in 13/2", "in near"),
                                    ("6", "near ends in 13/2", "in near"), ("7", "none", "in"), ("50", "none", "none"), ("root 1 0 -2 high", "in begins in 3", "none"),
                                    ("root 1 0 -10 high", "near begins in 11/2", "in"), ("root 1 0 -40 high", "near ends in 13/2", "in near"),
                                    ("root 1 0 -40 low", "in begins in 3", "none"), ("root 1 0 -50 high", "none", "none"), ("13/2", "in ends in 7", "in near")):
            self.assertEqual([desk.say("next " + moment), desk.say("holding " + moment)], [told, names], moment)

    def test_next_and_holding_with_texts_of_no_moment(self):
        desk = Desk(TEXT)
        before = journal(desk.bench)
        for word in ("next", "holding"):
            for text in ("", " ", " 3", "3 ", "  3", "6/2", "3/1", "+3", "03", "-0", "3.0", "x", "in", "root", "root 1 0 -2", "root 1 0 -4 high", "root 2 0 -4 high", "root 1 0 -2 up",
                         "root 1 0 -2 high ", "root 1  0 -2 high", "Root 1 0 -2 high", "3 4", "3\n", "\n3", "(3, 1)", "1/0", "root 1 0 -2 High", "root -1 0 2 high"):
                line = word + " " + text
                self.assertEqual(refused(desk.say, line), ("BadTask", line))
            for line in (word, word + "3", " " + word + " 3", word + "\t3", word.upper() + " 3", word.capitalize() + " 3"):
                self.assertEqual(refused(desk.say, line), ("BadTask", line))
        self.assertEqual(journal(desk.bench), before)

    def test_lines_that_are_none(self):
        desk = Desk(TEXT)
        desk.say("undo")
        before = journal(desk.bench)
        for line in [*NEVER, b"undo", ["undo"], "", " ", "undo ", " undo", "undo\n", "Undo", "UNDO", "undo undo", "undo 1", "redo ", "redo\n", "Redo", "redo redo", "held", "held ", "held  in",
                     " held in", "held in ", "held in near", "held In", "held 1", "held in\n", "held\tin", "Held in", "held ninesigns", "held (in van (disc 5 0 4))", "events ", " events", "Events",
                     "events in", "events\n", "event", "keep", "tried", "copy", "deeds", "watch 0 10", "journal", "take -1", "put van 1 2", "add x", "drop", "drop X", "take 0\n",
                     "put van 1 2 3\nput van 2 2 3", "none", "done"]:
            with self.assertRaises(WatchError) as caught:
                desk.say(line)
            self.assertEqual(type(caught.exception).__name__, "BadTask", line)
            self.assertIs(caught.exception.value, line)
        self.assertEqual(journal(desk.bench), before)
        self.assertEqual(desk.say("redo"), "done")

    def test_errors_of_the_post_and_of_the_functions(self):
        desk = Desk(BARE)
        for line in ("events", "next 3", "holding 3", "next root 1 0 -2 high"):
            self.assertEqual(refused(desk.say, line), ("BadThings", ()))
        self.assertEqual(refused(desk.say, "held in"), ("NoRule", "in"))
        desk.say("add in (in van (disc 5 0 4))")
        self.assertEqual(refused(desk.say, "held in"), ("BadThings", ()))
        desk.say("put cart 0 0 0")
        desk.say("put cart 1 0 0")
        for line in ("held in", "events", "next 3", "holding 3"):
            self.assertEqual(refused(desk.say, line), ("NoThing", "van"))
        desk.say("put van 0 0 0")
        self.assertEqual(refused(desk.say, "events"), ("NoThing", "van"))
        desk.say("put van 10 10 0")
        self.assertEqual(desk.say("events"), "in begins in 3; in ends in 7")
        for line, told in (("put van 0 1 1", ("Taken", (0, 1))), ("take 9", ("NoReport", 9)), ("correct 9 0 0 0", ("NoReport", 9)), ("add in (near van van 1)", ("Taken", "in")),
                           ("drop out", ("NoRule", "out")), ("next 3 4", ("BadTask", "next 3 4")), ("redo", ("NothingToRedo", None))):
            self.assertEqual(refused(desk.say, line), told)

    def test_questions_are_no_deeds(self):
        desk = Desk(TEXT)
        desk.say("undo")
        deeds = desk.bench.deeds
        for line in ("held in", "events", "next 3", "holding 3"):
            desk.say(line)
        refused(desk.say, "held near")
        self.assertEqual([desk.bench.deeds, desk.say("redo"), journal(desk.bench)], [deeds, "done", TEXT])

    def test_all_strings(self):
        desk = Desk(TEXT)
        for line in ("held in", "events", "next 3", "holding 3", "holding 99", "undo", "redo", "put dog 0 0 0"):
            self.assertIs(type(desk.say(line)), str)

    def test_many_against_functions(self):
        chance = random.Random(81)
        answers = set()
        for _ in range(25):
            desk, bench = Desk(BARE), Bench(WATCH)
            for _ in range(40):
                line = random_line(chance) if chance.random() < 0.6 else chance.choice(["undo", "redo", "held in", "held near", "events", "next 4", "holding 5", "next root 1 0 -40 high"])
                if line in ("undo", "redo"):
                    told = refused(getattr(bench, line)) or "done"
                elif line.split(" ")[0] not in ("held", "events", "next", "holding"):
                    told = refused(bench.do, line) or "done"
                else:
                    told = self.asked(bench.post(), line)
                self.assertEqual(refused(desk.say, line), told, line)
                self.assertTrue(desk.bench == bench)
                answers.add(told)
        self.assertGreater(len(answers), 30)

    def asked(self, post, line):
        """The answer to what is asked, by functions."""
        word, _, rest = line.partition(" ")
        if word == "held":
            told = refused(post.held, rest)
            return told if told and isinstance(told[0], str) else stretches_text(told) or "none"
        if word == "events":
            told = refused(post.events)
            return told if told and isinstance(told[0], str) else "; ".join([event_text(event) for event in told]) or "none"
        told = refused({"next": next_event, "holding": holding}[word], post.rules, post.things, post.watch, read_moment(rest))
        if told and isinstance(told[0], str) and told[0] in ("BadThings", "NoThing"):
            return told
        if word == "next":
            return "none" if told is None else event_text(told)
        return " ".join(told) or "none"

    def test_a_desk_of_a_journal_is_as_its_bench(self):
        bench = bench_of(*LINES)
        desk = Desk(journal(bench))
        self.assertTrue(desk.bench == bench == read_journal(journal(bench)))
        self.assertIsNot(desk.bench, bench)


if __name__ == "__main__":
    unittest.main()
