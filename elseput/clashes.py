"""Clashes: what two visitors can do to each other at one row."""

from elseput.contents import least_content


class Clashes:
    """How the visitors of a book clash with those of another one with the same fields, which may be the same book."""

    def __init__(self, book, other):
        self._book = book
        self._other = other
        self._torn = torn_contents(book)
        self._other_torn = torn_contents(other)
        # By the names of two shapes; which contents meet two conditions takes long to find out.
        self._common = {}

    def lost_content(self, first, second):
        """The least content at which both visitors change a row, so that they lose, or None."""
        if not is_changing(self._book, first) or not is_changing(self._other, second):
            return None
        names = (first[0], second[0])
        if names not in self._common:
            conditions = [self._book[names[0]].condition, self._other[names[1]].condition]
            self._common[names] = least_content(self._book.field_names, conditions)
        return self._common[names]

    def torn_content(self, second):
        """The least content at which a visitor changes a row so that any first one tears, or None."""
        return self._other_torn.get(second)

    def clash(self, first, second):
        """Whether the visitors clash."""
        if first in self._torn or second in self._other_torn:
            return True
        return self.lost_content(first, second) is not None


def is_changing(book, visitor):
    """Whether the action of a visitor is change."""
    name, key = visitor
    return book[name].action(key) == "change"


def torn_contents(book):
    """For each visitor that makes several writes in some row, the least content of such a row."""
    found = {}
    for shape in book:
        content = least_content(book.field_names, [shape.condition]) if len(shape.change) > 1 else None
        if content is not None:
            found.update({(shape.name, key): content for key, action in shape if action == "change"})
    return found
