"""[0.2] The errors."""

import unittest

from tests.common import Case, nested
from undertwo import errors
from undertwo.errors import Refused

NAMES = """
    Refused BadK BadRow BadRows NoDots BadStart BadMany BadView BadTs NoFit Blank Shared Thin BadWeights NoRoom
    BadMachine BadWord TooMany BadRoom Unlike BadLot TooThin BadSize BadLine BadLengths TooLong NotLet Short
    BadInspector BadKnot Wide BadLimit BadAt BadLetter NothingBack NothingAgain BadPlace BadText BadNames NoName
    TooDeep Twice BadGap Long BadName Full NoLaw Order NoTrack
""".split()


class Errors(Case):

    def test_all_are_there_and_no_others(self):
        self.assertEqual(len(NAMES), 49)
        there = [name for name, thing in vars(errors).items() if isinstance(thing, type)]
        self.assertEqual(sorted(there), sorted(NAMES))

    def test_each_stands_directly_under_refused(self):
        self.assertEqual(Refused.__bases__, (ValueError,))
        for name in NAMES[1:]:
            self.assertEqual(getattr(errors, name).__bases__, (Refused,), name)

    def test_they_are_classes_of_that_file_with_their_own_names(self):
        for name in NAMES:
            kind = getattr(errors, name)
            self.assertEqual((kind.__name__, kind.__module__), (name, "undertwo.errors"))

    def test_each_keeps_its_argument_as_it_is(self):
        held = [1]
        for name in NAMES:
            for thing in (0, -1, 7, 10 ** 5000, True, False, None, "", "even", (), (1, (2,)), held, nested(20)):
                error = getattr(errors, name)(thing)
                self.assertIs(error.what, thing)
                self.assertIsInstance(error, ValueError)

    def test_each_takes_just_one_argument(self):
        for name in NAMES:
            with self.assertRaises(TypeError):
                getattr(errors, name)()
            with self.assertRaises(TypeError):
                getattr(errors, name)(1, 2)

    def test_they_can_be_raised_and_caught(self):
        for name in NAMES:
            kind = getattr(errors, name)
            for caught in (kind, Refused, ValueError):
                with self.assertRaises(caught) as held:
                    raise kind(3)
                self.assertEqual(held.exception.what, 3)
                self.assertIs(type(held.exception), kind)

    def test_no_message_is_made(self):
        # A number of so many digits cannot be written by str.
        self.assertIsInstance(str(errors.BadRoom(10 ** 5000)), str)


if __name__ == "__main__":
    unittest.main()
