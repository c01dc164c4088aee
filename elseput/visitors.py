"""Visitors: shapes at the keys at which they change or tell a row."""

from elseput.clashes import Clashes, is_changing


def visitors(book):
    """The pairs of the name of a shape and a key that are the visitors of a book."""
    return [(shape.name, key) for shape in book for key, action in shape if action != "refuse"]


def pair_reasons(discipline):
    """For each two visitors, the reason why they do no harm to each other, or "open"."""
    book = discipline.book
    clashes = Clashes(book, book)
    return [(first, second, pair_reason(clashes, discipline, first, second)) for first, second in visitor_pairs(book)]


def visitor_pairs(book):
    """Each visitor of a book with each one from this one on."""
    found = visitors(book)
    return [(first, second) for at, first in enumerate(found) for second in found[at:]]


def pair_reason(clashes, discipline, first, second):
    """The reason why two visitors of a discipline do no harm to each other, or "open"."""
    if not clashes.clash(first, second):
        return "harmless"
    return exclusion(discipline, first, discipline, second)


def exclusion(discipline, first, other, second):
    """What excludes a visitor of a discipline and one of another, or "open" if nothing does."""
    changing = is_changing(discipline.book, first) or is_changing(other.book, second)
    if changing and is_locked(discipline, first) and is_locked(other, second):
        return "locked"
    if first[1] == second[1] and is_kept(discipline, first) and is_kept(other, second):
        return "kept"
    return "open"


def is_locked(discipline, visitor):
    """Whether the key of a visitor is locked."""
    name, key = visitor
    return key in discipline[name].locked


def is_kept(discipline, visitor):
    """Whether the key of a visitor is held at its look and kept."""
    name, key = visitor
    plan = discipline[name]
    return plan.holds_at_look(key) and key in plan.kept
