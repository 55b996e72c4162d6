"""Point 16, and point 2 of errors: WatchError and all errors directly below it."""
import unittest

from crossingstold import errors
from tests.helpers import NEVER

NAMES = (
    "BadPoint BadLength BadSquare BadSpeed BadMoment BadNumber BadEquation BadStretches BadRegion BadReport BadWay "
    "BadPatch BadLook BadThings BadWatch BadRule BadRules NoThing NotThen Apart NoRule NoReport BadName Taken Full "
    "BadPatches NothingToUndo NothingToRedo NoBlock BadJournal BadTask BadMoments BadSide BadFraction NotBelow NoPost "
    "BadSpan TooMany BadBounds NotIn BadStep TooFast TooSoon BadEvent").split()


class Errors(unittest.TestCase):
    def test_watch_error_is_a_value_error(self):
        self.assertEqual(errors.WatchError.__bases__, (ValueError,))
        self.assertEqual(errors.WatchError.__module__, "crossingstold.errors")

    def test_all_errors_are_there_directly_below_it(self):
        self.assertEqual(len(NAMES), 44)
        for name in NAMES:
            error = getattr(errors, name)
            self.assertEqual(error.__bases__, (errors.WatchError,), name)
            self.assertEqual(error.__module__, "crossingstold.errors", name)
            self.assertEqual(error.__name__, name)

    def test_there_is_no_other_error(self):
        told = [name for name, value in vars(errors).items() if isinstance(value, type)]
        self.assertEqual(sorted(told), sorted(["WatchError", *NAMES]))

    def test_each_keeps_any_value(self):
        for name in ["WatchError", *NAMES]:
            for value in NEVER:
                self.assertIs(getattr(errors, name)(value).value, value, name)

    def test_each_takes_just_one_value(self):
        for name in ["WatchError", *NAMES]:
            error = getattr(errors, name)
            self.assertRaises(TypeError, error)
            self.assertRaises(TypeError, error, 1, 2)

    def test_one_is_caught_as_each_that_is_above_it(self):
        for name in NAMES:
            for above in (getattr(errors, name), errors.WatchError, ValueError):
                with self.assertRaises(above) as caught:
                    raise getattr(errors, name)(("a", 1))
                self.assertEqual(caught.exception.value, ("a", 1))
        self.assertFalse(issubclass(errors.BadMoments, errors.BadMoment))
