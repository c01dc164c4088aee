"""What the tests share."""

import unittest

from elseput.errors import BadText, ElseputError

BOUND = 10 ** 30
SIGNS = ("<", "<=", "==", "!=", ">=", ">")
RESERVED = (
    "always never and or not when add set change tell refuse take look free lock keep keys fields"
).split()
BAD_NAMES = ["", "a" * 13, "A", "aB", "a1", "a b", " a", "a ", "a_b", "1", "-", *RESERVED]


class Case(unittest.TestCase):
    def fails(self, kind, fields, call, *given):
        """The call raises exactly this error with these fields."""
        with self.assertRaises(ElseputError) as caught:
            call(*given)
        self.assertIs(type(caught.exception), kind)
        self.assertEqual({name: getattr(caught.exception, name) for name in fields}, fields)

    def bad_text(self, line, column, call, *given):
        self.fails(BadText, {"line": line, "column": column}, call, *given)

    def bad_column(self, call, line, column):
        """Reading the line, which is the whole text, fails at this column."""
        with self.subTest(line=line):
            self.bad_text(1, column, call, line)
