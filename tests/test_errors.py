import inspect
import unittest

from lyinghouse import errors
from lyinghouse.errors import HouseError
from samples import odd_values

LISTED = (
    "BadValue, BadText, BadValues, BadDeed, BadPath, NoFile, BadDeeds, BadTree, BadName, BadNumber, "
    "BadSeal, OtherBody, NoBlock, BadRoot, BadKey, BadMap, NoKey, BadRows, BadFile, Beyond, TooLong, "
    "BadImage, BadSteps, BadChoices, TooFull, BadNames, BadPast, BadCounts, NoRow, NoDesk, NotOwn, "
    "TooMany, Cheated, Busy, NotOpen, BadRoots, Full, BadTellings, Never, BadEvents, BadRule, BadLine, "
    "NotBusy, BadAnswer, BadDay, DayOver, NoName"
).split(", ")


class Errors(unittest.TestCase):

    def test_all_are_there_and_no_others(self):
        found = [name for name, kind in vars(errors).items() if inspect.isclass(kind)]
        self.assertEqual(sorted(found), sorted(["HouseError"] + LISTED))

    def test_they_derive_directly(self):
        self.assertEqual(HouseError.__bases__, (ValueError,))
        for name in LISTED:
            self.assertEqual(getattr(errors, name).__bases__, (HouseError,), name)

    def test_they_keep_any_value(self):
        for name in ["HouseError"] + LISTED:
            for value in odd_values():
                error = getattr(errors, name)(value)
                self.assertIs(error.value, value)

    def test_they_take_just_one_argument(self):
        for name in ["HouseError"] + LISTED:
            self.assertRaises(TypeError, getattr(errors, name))
            self.assertRaises(TypeError, getattr(errors, name), 1, 2)

    def test_they_can_be_raised_and_caught(self):
        for name in LISTED:
            with self.assertRaises(HouseError) as caught:
                raise getattr(errors, name)((1, "x"))
            self.assertEqual(caught.exception.value, (1, "x"))


if __name__ == "__main__":
    unittest.main()
