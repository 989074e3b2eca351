"""errors.py: each class, its place below ReachError, and its fields."""

import unittest

from helpers import ANY, Case
from wheelreach import errors
from wheelreach.errors import ReachError

FIELDS = {
    "BadNumber": ("value",), "BadLot": ("part",), "BadWheel": ("part",), "BadMeter": ("part",), "BadMark": ("at",),
    "BadValue": ("value",), "BadGear": ("at",), "BadShelf": ("part",), "BadLog": ("at",), "BadFollower": ("part",),
    "BadDeed": ("at",), "BadText": ("line", "word"), "BadLine": ("word",), "NoMember": (), "NoName": ("name",),
    "NoPlace": ("at",), "Unlike": ("part",), "Unfit": (), "Nothing": (), "TooMany": ("what", "most"),
}


class Errors(Case):
    def test_base(self):
        self.assertEqual(ReachError.__bases__, (ValueError,))
        for values in [(), (1,), ("a", None), (True, [1], {}), (len, ReachError())]:
            self.assertIsInstance(ReachError(*values), ValueError)

    def test_directly_below_the_base(self):
        for name in FIELDS:
            self.assertEqual(getattr(errors, name).__bases__, (ReachError,), name)
            self.assertEqual(getattr(errors, name).__module__, "wheelreach.errors")

    def test_fields_by_position_and_by_name(self):
        for name, fields in FIELDS.items():
            made = getattr(errors, name)
            for value in ANY:
                values = [value] + ["other"] * (len(fields) - 1)
                values = values[:len(fields)]
                for error in (made(*values), made(**dict(zip(fields, values)))):
                    self.assertEqual(list(vars(error)), list(fields))
                    for field, wanted in zip(fields, values):
                        self.assertIs(getattr(error, field), wanted)

    def test_second_fields(self):
        for value in ANY:
            self.assertIs(errors.BadText(0, value).word, value)
            self.assertIs(errors.BadText(word=value, line=1).word, value)
            self.assertIs(errors.TooMany("runs", value).most, value)
            self.assertIs(errors.TooMany(most=value, what="runs").most, value)
            self.assertEqual(errors.TooMany(most=value, what="runs").what, "runs")

    def test_can_be_raised_and_caught(self):
        for name, fields in FIELDS.items():
            with self.assertRaises(ReachError):
                raise getattr(errors, name)(*fields)


if __name__ == "__main__":
    unittest.main()
