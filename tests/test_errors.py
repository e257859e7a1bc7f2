"""Point [6]: the error classes."""

import unittest

from partmeet import errors

NAMES = ["Malformed", "OutOfRange", "NotOp", "NoPlace", "Retired", "NoMessage", "LinkCut", "NoSite", "Absent",
         "SiteDown", "SiteUp", "SiteGone", "StillThere", "NotReady", "NoClient", "Behind"]


class Errors(unittest.TestCase):
    def test_the_base(self):
        self.assertEqual(errors.MeetError.__bases__, (ValueError,))
        self.assertEqual(errors.MeetError.__module__, "partmeet.errors")

    def test_each_derives_directly_from_the_base(self):
        for name in NAMES:
            self.assertEqual(getattr(errors, name).__bases__, (errors.MeetError,), name)
            self.assertEqual(getattr(errors, name).__module__, "partmeet.errors", name)

    def test_there_are_no_others(self):
        found = [name for name in vars(errors) if isinstance(getattr(errors, name), type)]
        self.assertEqual(sorted(found), sorted(NAMES + ["MeetError"]))

    def test_each_is_raised_and_caught_by_its_own_name_alone(self):
        for name in NAMES:
            for other in NAMES:
                self.assertIs(issubclass(getattr(errors, name), getattr(errors, other)), name == other)
            with self.assertRaises(errors.MeetError) as caught:
                raise getattr(errors, name)("why")
            self.assertEqual(str(caught.exception), "why")


if __name__ == "__main__":
    unittest.main()
