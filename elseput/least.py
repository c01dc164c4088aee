"""The least discipline of a book."""

from elseput.clashes import Clashes
from elseput.disciplines import planned
from elseput.orders import every_order
from elseput.plans import Plan
from elseput.visitors import visitor_pairs, visitors


def lazy_plan(shape, order, *, locked=(), kept=()):
    """The plan that takes the keys of a shape in order, and each as late as it can."""
    steps = []
    taken = []
    for key in shape.carried:
        if key not in taken:
            due = [other for other in order(shape.carried) if other not in taken and order[other] <= order[key]]
            steps.extend([("take", other) for other in due])
            taken.extend(due)
        steps.append(("look", key))
    return Plan(steps, locked=locked, kept=kept)


def needed_locks(book):
    """The visitors that clash with a visitor of another key."""
    return visitors_among(book, [pair for pair in clashing_pairs(book) if not at_one_key(pair)])


def needed_keeps(book):
    """The visitors that clash with a visitor of the same key, unless locks are needed for both."""
    locks = needed_locks(book)
    pairs = [pair for pair in clashing_pairs(book) if at_one_key(pair)]
    return visitors_among(book, [pair for pair in pairs if pair[0] not in locks or pair[1] not in locks])


def clashing_pairs(book):
    """The pairs of visitors of a book that clash."""
    clashes = Clashes(book, book)
    return [(first, second) for first, second in visitor_pairs(book) if clashes.clash(first, second)]


def at_one_key(pair):
    """Whether two visitors have the same key."""
    return pair[0][1] == pair[1][1]


def visitors_among(book, pairs):
    """The visitors of a book that stand in one of the pairs."""
    return [visitor for visitor in visitors(book) if any([visitor in pair for pair in pairs])]


def lazy(book, order):
    """The discipline that takes the keys in order and late, and locks and keeps no more than it has to."""
    locks = needed_locks(book)
    keeps = needed_keeps(book)
    return planned(book, [lazy_plan(shape, order, locked=keys_of(shape, locks), kept=keys_of(shape, keeps))
                          for shape in book])


def keys_of(shape, chosen):
    """The keys of those of the visitors that have this shape."""
    return [key for name, key in chosen if name == shape.name]


def best_order(book):
    """The first order of the keys for which the lazy discipline has the least waste."""
    orders = list(every_order(book.key_names))
    wastes = [lazy_waste(book, order) for order in orders]
    least_waste = min(wastes)
    return [order for order, waste in zip(orders, wastes) if waste == least_waste][0]


def lazy_waste(book, order):
    """The waste of the lazy discipline of a book for an order."""
    return sum([lazy_plan(shape, order).waste for shape in book])


def least(book):
    """The safe discipline of a book that has the least waste, and locks and keeps the least."""
    return lazy(book, best_order(book))
