"""Each example that the document prints of points 4 to 15, with the very answers that it prints."""
import doctest
import os
import unittest

FOLDER = os.path.join(os.path.dirname(os.path.abspath(__file__)), "examples")


class Examples(unittest.TestCase):
    def run_file(self, name, many):
        with open(os.path.join(FOLDER, name), encoding="ascii") as file:
            test = doctest.DocTestParser().get_doctest(file.read(), {}, name, name, 0)
        self.assertEqual(len(test.examples), many)
        told = []
        result = doctest.DocTestRunner().run(test, out=told.append)
        self.assertEqual(result.failed, 0, "".join(told))

    def test_moments(self):
        self.run_file("moments.txt", 10)

    def test_stretches(self):
        self.run_file("stretches.txt", 10)

    def test_regions(self):
        self.run_file("regions.txt", 12)

    def test_ways(self):
        self.run_file("ways.txt", 10)

    def test_rules(self):
        self.run_file("rules.txt", 13)

    def test_events(self):
        self.run_file("events.txt", 9)

    def test_unseen(self):
        self.run_file("unseen.txt", 10)

    def test_cones(self):
        self.run_file("cones.txt", 11)

    def test_looks(self):
        self.run_file("looks.txt", 10)

    def test_keeping(self):
        self.run_file("keeping.txt", 10)

    def test_pictures(self):
        self.run_file("pictures.txt", 5)

    def test_desk(self):
        self.run_file("desk.txt", 6)

    def test_they_are_those_of_the_document(self):
        document = os.path.join(FOLDER, "..", "..", "..", "shared", "DOC.md")
        if not os.path.exists(document):
            self.skipTest("the document is not beside the project")
        with open(document, encoding="ascii") as file:
            blocks = file.read().split("```\n")[1::2]
        told = []
        for name in sorted(os.listdir(FOLDER)):
            with open(os.path.join(FOLDER, name), encoding="ascii") as file:
                told.append(file.read())
        self.assertEqual(sorted(told), sorted(blocks))
