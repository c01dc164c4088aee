"""Rollouts: two disciplines at work on one table at the same time."""

from elseput.books import Book, check_alike
from elseput.checks import check_name
from elseput.clashes import Clashes
from elseput.disciplines import planned
from elseput.errors import BadBook
from elseput.judging import judge
from elseput.plans import Plan
from elseput.rings import obeyed_orders
from elseput.shapes import Shape
from elseput.visitors import exclusion, visitors


def alongside(first, second, names):
    """One discipline for the shapes of two, in which those of the second one have other names."""
    for name in names:
        check_name(name)
    check_alike(first.book, second.book)
    if len(names) != len(second) or len(set(names)) < len(names) or any([name in first.book for name in names]):
        raise BadBook()
    book = first.book
    others = [renamed(shape, name) for shape, name in zip(second.book, names)]
    shapes = [*book, *others]
    plans = [plan for _, plan in [*first, *second]]
    # The names fit by now, so all that can be wrong with this book is that it has too many shapes.
    return planned(Book(book.key_names, book.field_names, *shapes), plans)


def renamed(shape, name):
    """The same shape under another name."""
    return Shape(name, shape.arms, shape.condition, shape.change)


def compatible(first, second):
    """Whether two disciplines may be at work on one table at the same time."""
    check_alike(first.book, second.book)
    return len(safe_orders(first, second)) > 0 and are_excluded(first, second)


def safe_orders(first, second):
    """The orders of the keys that two disciplines both obey, or none if one of them is not safe."""
    if not judge(first).safe or not judge(second).safe:
        return []
    others = [order.names for order in obeyed_orders(second)]
    return [order for order in obeyed_orders(first) if order.names in others]


def are_excluded(first, second):
    """Whether each visitor of a discipline that clashes with one of another is excluded with it."""
    clashes = Clashes(first.book, second.book)
    pairs = [(one, other) for one in visitors(first.book) for other in visitors(second.book)]
    clashing = [(one, other) for one, other in pairs if clashes.clash(one, other)]
    return all([exclusion(first, one, second, other) != "open" for one, other in clashing])


def strictest(book, order):
    """The discipline that takes all before it looks, and locks and keeps all that it can."""
    return planned(book, [strictest_plan(shape, order) for shape in book])


def strictest_plan(shape, order):
    """The plan that takes all keys before it looks, and locks and keeps all that it can."""
    takes = [("take", key) for key in order(shape.carried)]
    looks = [("look", key) for key in shape.carried]
    visited = [key for key, action in shape if action != "refuse"]
    return Plan([*takes, *looks], locked=visited, kept=visited)


def bridge(old, new):
    """The disciplines by which one can be replaced by another while writers are at work, or None."""
    if old.book.text() != new.book.text():
        raise BadBook()
    orders = safe_orders(old, new)
    if len(orders) == 0:
        return None
    return [] if are_excluded(old, new) else [strictest(old.book, orders[0])]
