"""The errors: under what they stand, and what they keep."""

import unittest

from leaveledger import errors

WITH_ARGUMENT = {
    "BadText": "at", "NotLet": "fault", "BadWorld": "part", "BadAsk": "part", "NoName": "name",
    "Unmet": "need", "BadRow": "number", "TooMany": "part", "TooLarge": "part",
}
WITHOUT_ARGUMENT = ("BadTree", "BadDeed", "Unlike", "BadClaim", "Refused")
LIMITS = ("TooMany", "TooLarge")


class ErrorsTest(unittest.TestCase):
    def test_all_stand_under_leave_error(self):
        self.assertTrue(issubclass(errors.LeaveError, ValueError))
        self.assertTrue(issubclass(errors.LimitError, errors.LeaveError))
        for name in (*WITH_ARGUMENT, *WITHOUT_ARGUMENT):
            self.assertTrue(issubclass(getattr(errors, name), errors.LeaveError), name)

    def test_just_the_limits_stand_under_limit_error(self):
        for name in (*WITH_ARGUMENT, *WITHOUT_ARGUMENT):
            self.assertEqual(issubclass(getattr(errors, name), errors.LimitError), name in LIMITS, name)

    def test_none_stands_under_another_one(self):
        names = (*WITH_ARGUMENT, *WITHOUT_ARGUMENT)
        for name in names:
            for other in names:
                if name != other:
                    self.assertFalse(issubclass(getattr(errors, name), getattr(errors, other)), (name, other))

    def test_arguments_are_kept(self):
        for name, attribute in WITH_ARGUMENT.items():
            for argument in (0, "node", (3, ("unknown", "x")), None):
                error = getattr(errors, name)(argument)
                self.assertEqual(getattr(error, attribute), argument)
                self.assertEqual(getattr(getattr(errors, name)(**{attribute: argument}), attribute), argument)

    def test_others_have_no_argument(self):
        for name in WITHOUT_ARGUMENT:
            with self.assertRaises(errors.LeaveError):
                raise getattr(errors, name)()

    def test_defined_in_their_file(self):
        for name in (*WITH_ARGUMENT, *WITHOUT_ARGUMENT, "LeaveError", "LimitError"):
            self.assertEqual(getattr(errors, name).__module__, "leaveledger.errors")


if __name__ == "__main__":
    unittest.main()
