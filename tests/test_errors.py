"""Section 12: the errors."""

import unittest

from tests.values import any_values
from trustsorted import errors

NAMES = (
    "BadHouse NoRule NoPass NotFull BadName BadRows BadSeen Unfit BadTool BadLoad BadPromise BadPromises BadSigns "
    "BadForms OtherSigns TooMany BadLength BadWork NoFile BadChanges BadOffers BadLine NoLine Needed NothingToUndo "
    "NothingToRedo NoTrial BadJournal BadSay"
).split(" ")


class ErrorsTest(unittest.TestCase):

    def test_order_error_derives_from_value_error(self):
        self.assertEqual(errors.OrderError.__bases__, (ValueError,))

    def test_all_others_stand_directly_below_it(self):
        self.assertEqual(len(NAMES), 29)
        for name in NAMES:
            self.assertEqual(getattr(errors, name).__bases__, (errors.OrderError,), name)
            self.assertEqual(getattr(errors, name).__name__, name)
            self.assertEqual(getattr(errors, name).__module__, "trustsorted.errors")

    def test_each_keeps_any_value(self):
        for name in NAMES + ["OrderError"]:
            for value in any_values():
                self.assertIs(getattr(errors, name)(value).value, value)
                self.assertIs(getattr(errors, name)(value=value).value, value)

    def test_each_takes_just_one_argument(self):
        for name in NAMES + ["OrderError"]:
            self.assertRaises(TypeError, getattr(errors, name))
            self.assertRaises(TypeError, getattr(errors, name), 1, 2)

    def test_each_is_raised_and_caught_by_its_name(self):
        for name in NAMES:
            with self.assertRaises(getattr(errors, name)) as caught:
                raise getattr(errors, name)(("a", 1))
            self.assertEqual(caught.exception.value, ("a", 1))


if __name__ == "__main__":
    unittest.main()
