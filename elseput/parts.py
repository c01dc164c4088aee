"""Kinds of faults, and parts of a discipline."""

from elseput.books import Book
from elseput.disciplines import planned
from elseput.errors import UnknownShape
from elseput.finding import standings

KINDS = ("doubled", "lost", "told", "stuck")


def fault_kinds(discipline):
    """The kinds of the standings of a discipline."""
    found = [standing.kind for standing in standings(discipline)]
    return [kind for kind in KINDS if kind in found]


def restricted(discipline, names):
    """The discipline of only those shapes whose names are given."""
    book = discipline.book
    for name in names:
        if name not in book:
            raise UnknownShape(name)
    shapes = [shape for shape in book if shape.name in names]
    plans = [discipline[shape.name] for shape in shapes]
    return planned(Book(book.key_names, book.field_names, *shapes), plans)
