"""Promise 0.3: the error classes, their fields and their bases."""

import unittest

from asifforever import errors
from asifforever.errors import DrawError
from things import odd_things

FIELDS = {
    "BadSystem": "part", "BadLine": "number", "BadCoin": "number", "BadModel": "part", "TooMany": "most",
    "NoName": "name"}
BARE = (
    "NoRow NoState NoSpread NoNumber NoLot NotOne NoShare NothingTold NoCoins NoPlan NoMove NoLength NotMerging "
    "NoBits NoOrder NotKept NoEnds NoPicture NoPlace NoRenewal NothingFits NoSizes NoPairs NoFlips NotRising NoCover "
    "NoOrdering NoPlaces NoValue NoEdit NothingDone NoLine").split()


class ErrorsTest(unittest.TestCase):
    def test_draw_error_derives_directly_from_value_error(self):
        self.assertEqual(DrawError.__bases__, (ValueError,))
        self.assertIsInstance(DrawError(), DrawError)

    def test_each_derives_directly_from_draw_error_and_is_defined_here(self):
        for name in BARE + list(FIELDS):
            with self.subTest(name):
                self.assertEqual(getattr(errors, name).__bases__, (DrawError,))
                self.assertEqual(getattr(errors, name).__module__, "asifforever.errors")
                self.assertEqual(getattr(errors, name).__name__, name)

    def test_there_are_no_others(self):
        found = [name for name, thing in vars(errors).items() if isinstance(thing, type)]
        self.assertEqual(sorted(found), sorted(["DrawError"] + BARE + list(FIELDS)))

    def test_fields_keep_whatever_is_passed(self):
        for name, field in FIELDS.items():
            for thing in odd_things():
                error = getattr(errors, name)(thing)
                self.assertIs(getattr(error, field), thing)
                self.assertEqual(list(vars(error)), [field])

    def test_fields_are_needed_and_no_more(self):
        for name in FIELDS:
            with self.subTest(name):
                self.assertRaises(TypeError, getattr(errors, name))
                self.assertRaises(TypeError, getattr(errors, name), 1, 2)

    def test_those_without_fields_are_made_with_nothing(self):
        for name in BARE:
            with self.subTest(name):
                self.assertEqual(vars(getattr(errors, name)()), {})
                self.assertRaises(TypeError, getattr(errors, name), 1)

    def test_each_can_be_raised_and_caught_by_its_bases(self):
        for name in BARE + list(FIELDS):
            made = getattr(errors, name)(3) if name in FIELDS else getattr(errors, name)()
            for caught in (getattr(errors, name), DrawError, ValueError):
                with self.assertRaises(caught) as found:
                    raise made
                self.assertIs(found.exception, made)


if __name__ == "__main__":
    unittest.main()
