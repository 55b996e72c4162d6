"""Each example that the document prints of points 4 to 9, with the very answers that it prints."""
import doctest
import os
import unittest

FOLDER = os.path.join(os.path.dirname(os.path.abspath(__file__)), "examples")


class Examples(unittest.TestCase):
    def run_file(self, name, many):
        with open(os.path.join(FOLDER, name), encoding="ascii") as file:
            test = doctest.DocTestParser().get_doctest(file.read(), {}, name, name, 0)
        self.assertEqual(len(test.examples), many)
        told = []
        result = doctest.DocTestRunner().run(test, out=told.append)
        self.assertEqual(result.failed, 0, "".join(told))

    def test_moments(self):
        self.run_file("moments.txt", 10)

    def test_stretches(self):
        self.run_file("stretches.txt", 10)

    def test_regions(self):
        self.run_file("regions.txt", 12)

    def test_ways(self):
        self.run_file("ways.txt", 10)

    def test_rules(self):
        self.run_file("rules.txt", 13)

    def test_events(self):
        self.run_file("events.txt", 9)
