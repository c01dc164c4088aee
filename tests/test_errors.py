"""The errors of the interface: their bases and their fields."""

import unittest

from elseput import errors

FIELDS = {
    "BadName": ("name",), "BadNumber": ("value",), "BadSign": ("sign",), "BadText": ("line", "column"),
    "TooLarge": ("most",), "UnknownName": ("name",), "UnknownKey": ("name",), "UnknownField": ("name",),
    "UnknownShape": ("name",), "BadShape": ("name",), "BadBook": (), "BadRow": (), "NoRow": ("row",),
    "BadOrder": (), "BadPlan": (), "BadTurn": ("writer",), "Taken": ("key", "row"), "Refused": ("key", "row"),
    "BatchRefused": ("index",),
}
UNKNOWN = ("UnknownKey", "UnknownField", "UnknownShape")
NUMBERS = ("value", "line", "column", "most", "row", "writer", "index")


class Errors(unittest.TestCase):
    def test_the_base_stands_under_value_error(self):
        self.assertEqual(errors.ElseputError.__bases__, (ValueError,))

    def test_each_error_stands_directly_under_its_base(self):
        for name in FIELDS:
            base = errors.UnknownName if name in UNKNOWN else errors.ElseputError
            with self.subTest(name=name):
                self.assertEqual(getattr(errors, name).__bases__, (base,))

    def test_each_error_takes_its_fields_in_order(self):
        for name, fields in FIELDS.items():
            given = [7 + at if field in NUMBERS else f"word{at}" for at, field in enumerate(fields)]
            error = getattr(errors, name)(*given)
            with self.subTest(name=name):
                self.assertEqual([getattr(error, field) for field in fields], given)
                self.assertIsInstance(str(error), str)

    def test_an_error_is_caught_by_its_bases(self):
        for base in (errors.UnknownKey, errors.UnknownName, errors.ElseputError, ValueError):
            with self.assertRaises(base):
                raise errors.UnknownKey("a")

    def test_the_unknown_names_are_distinct_errors(self):
        self.assertNotIsInstance(errors.UnknownKey("a"), errors.UnknownField)
        self.assertNotIsInstance(errors.UnknownField("a"), errors.UnknownShape)
        self.assertNotIsInstance(errors.UnknownShape("a"), errors.UnknownKey)
