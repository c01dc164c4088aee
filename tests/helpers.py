"""What the tests share."""

import unittest

from elseput.books import Book
from elseput.disciplines import Discipline
from elseput.errors import BadText, ElseputError
from elseput.plans import Plan
from elseput.tables import Table

BOUND = 10 ** 30
SIGNS = ("<", "<=", "==", "!=", ">=", ">")
RESERVED = (
    "always never and or not when add set change tell refuse take look free lock keep keys fields"
).split()
BAD_NAMES = ["", "a" * 13, "A", "aB", "a1", "a b", " a", "a ", "a_b", "1", "-", *RESERVED]


def discipline(text, **plans):
    """The discipline of a book, with these texts of plans for some of its shapes."""
    found = Discipline(Book.read(text))
    for name, line in plans.items():
        found[name] = Plan.read(line)
    return found


def table(book, *rows):
    """A table for a book, with rows that are pairs of places and the numbers of the fields."""
    found = Table(book.key_names, book.field_names)
    for places, numbers in rows:
        found.enter(places, dict(zip(book.field_names, numbers)))
    return found


def state(machine):
    """Nearly all that a machine returns."""
    recovered = machine.recovered()
    return {
        "outcomes": machine.outcomes, "events": machine.events, "faults": machine.faults, "waiting": machine.waiting,
        "order": machine.order, "unfinished": machine.unfinished, "ring": machine.ring, "ended": machine.ended,
        "stuck": machine.stuck, "rows": machine.rows(), "recovered": recovered.rows(),
        "held": [machine.held(writer) for writer in range(len(machine.outcomes))],
        "restarts": getattr(machine, "restarts", None),
    }


class Case(unittest.TestCase):
    def fails(self, kind, fields, call, *given):
        """The call raises exactly this error with these fields."""
        with self.assertRaises(ElseputError) as caught:
            call(*given)
        self.assertIs(type(caught.exception), kind)
        self.assertEqual({name: getattr(caught.exception, name) for name in fields}, fields)

    def bad_text(self, line, column, call, *given):
        self.fails(BadText, {"line": line, "column": column}, call, *given)

    def bad_column(self, call, line, column):
        """Reading the line, which is the whole text, fails at this column."""
        with self.subTest(line=line):
            self.bad_text(1, column, call, line)
