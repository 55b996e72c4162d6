"""Point 15: journals, there and back."""
import random
import unittest

from crossingstold.benches import Bench
from crossingstold.journals import journal, read_journal
from tests.helpers import NEVER, refused
from tests.test_benches import LINES, WATCH, bench_of, random_line

HEAD = "watch 0 10\ndeeds"


class Journal(unittest.TestCase):
    def test_the_watch_and_the_deeds(self):
        self.assertEqual(journal(Bench(WATCH)), HEAD)
        self.assertEqual(journal(Bench(((-7, 2), (22, 7)))), "watch -7/2 22/7\ndeeds")
        self.assertEqual(journal(bench_of(*LINES)), "\n".join([HEAD, *LINES]))
        bench = bench_of(*LINES)
        bench.undo()
        bench.undo()
        self.assertEqual(journal(bench), "\n".join([HEAD, *LINES[:-2]]))
        bench.redo()
        self.assertEqual(journal(bench), "\n".join([HEAD, *LINES[:-1]]))
        bench.tried(lambda given: given.undo())
        self.assertEqual(journal(bench), "\n".join([HEAD, *LINES[:-1]]))

    def test_there_and_back(self):
        for lines in ((), LINES, LINES[:3], ["put van 1/2 -3 7/5", "take 0", "put van 1/2 -3 7/5", "take 1"]):
            bench = bench_of(*lines)
            told = read_journal(journal(bench))
            self.assertIsInstance(told, Bench)
            self.assertEqual([told == bench, told.post() == bench.post(), told.deeds, len(told), journal(told)], [True, True, len(lines), len(bench), journal(bench)])
            # All of it can be undone.
            for _ in lines:
                told.undo()
            self.assertEqual([refused(told.undo), told == Bench(WATCH)], [("NothingToUndo", None), True])

    def test_what_was_undone_is_not_kept(self):
        bench = bench_of(*LINES)
        bench.undo()
        self.assertEqual(refused(read_journal(journal(bench)).redo), ("NothingToRedo", None))

    def test_no_string(self):
        for value in [value for value in NEVER if not isinstance(value, str)] + [[HEAD], (HEAD,), b"watch 0 10\ndeeds", Bench(WATCH)]:
            self.assertEqual(refused(read_journal, value), ("BadJournal", 0))

    def test_the_first_line_that_can_not_stand(self):
        for text, told in (
                ("", 1), ("\n", 1), ("watch", 1), ("watch 0 10", 2), ("watch 0 10\n", 2), ("watch 0 10\n\n", 2), ("deeds", 1), ("deeds\nwatch 0 10", 1), (HEAD + "\n", 3),
                (HEAD + "\n\n", 3), (HEAD + "\nput van 0 0 0\n", 4), (HEAD + "\n\nput van 0 0 0", 3), ("\n" + HEAD, 1), ("watch 0 10\ndeed", 2), ("watch 0 10\ndeeds ", 2),
                ("watch 0 10\n deeds", 2), ("watch 0 10\nDeeds", 2), ("watch 0 10\nput van 0 0 0", 2), ("watch 10 0\ndeeds", 1), ("watch 0 0\ndeeds", 1), ("watch 10 0", 1),
                ("watch 0 10 20\ndeeds", 1), ("watch 0\ndeeds", 1), ("watch  0 10\ndeeds", 1), (" watch 0 10\ndeeds", 1), ("watch 0 10 \ndeeds", 1), ("Watch 0 10\ndeeds", 1),
                ("watch 0  10\ndeeds", 1), ("watch 0 20/2\ndeeds", 1), ("watch 0 +10\ndeeds", 1), ("watch 0 root 1 0 -2 high\ndeeds", 1), ("watch 0 010\ndeeds", 1), ("watch -0 10\ndeeds", 1),
                ("watch\t0 10\ndeeds", 1), ("what 0 10\ndeeds", 1), ("watch0 10\ndeeds", 1), ("watch 0 10.0\ndeeds", 1), ("watch (0, 10)\ndeeds", 1), (HEAD + "\ndeeds", 3),
                (HEAD + "\nput van 0 0 0\nput van 0 1 1", 4), (HEAD + "\ntake 0", 3), (HEAD + "\nput van 0 0 0\ntake 0\ntake 0", 5), (HEAD + "\nundo", 3), (HEAD + "\nheld in", 3),
                (HEAD + "\nput van 0 0 0\nundo", 4), (HEAD + "\nput van 0 0 0\nwhat\ntake 7", 4), (HEAD + "\n put van 0 0 0", 3), (HEAD + "\nput van 0 0 0 ", 3),
                (HEAD + "\n" + "\n".join(LINES) + "\ntake 4", 13), (HEAD + "\n" + "\n".join(LINES) + "\n", 13), (HEAD + "\ndrop in", 3), (HEAD + "\nwatch 0 10", 3),
                (HEAD + "\nput van 0 0 0\ncorrect 1 0 0 0", 4), (HEAD + "\n" + "\n".join([f"put van {n} 0 0" for n in range(13)]), 15), ("what\nwhat\nwhat", 1),
                ("watch 0 10\nwhat\nwhat", 2), ("watch 0 10\r\ndeeds", 1)):
            self.assertEqual(refused(read_journal, text), ("BadJournal", told), text)

    def test_many(self):
        chance = random.Random(71)
        wrong = 0
        for _ in range(60):
            bench, lines = Bench(WATCH), []
            for _ in range(20):
                line = random_line(chance)
                if refused(bench.do, line) is None:
                    lines.append(line)
            self.assertEqual(journal(bench), "\n".join([HEAD, *lines]))
            self.assertTrue(read_journal(journal(bench)) == bench)
            # One line less, or two changed round: each is refused just where bench.do refuses it.
            one, two = [chance.randrange(len(lines)) for _ in range(2)]
            lines[one], lines[two] = lines[two], lines[one]
            del lines[chance.randrange(len(lines))]
            told, anew = None, Bench(WATCH)
            for n, line in enumerate(lines, 3):
                if refused(anew.do, line) is not None:
                    told = ("BadJournal", n)
                    break
            found = refused(read_journal, "\n".join([HEAD, *lines]))
            self.assertTrue(found == (told or anew))
            wrong += told is not None
        self.assertGreater(wrong, 5)


if __name__ == "__main__":
    unittest.main()
