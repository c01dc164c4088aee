"""Books: the keys and the fields of a table, and the shapes of its statements."""

from elseput.checks import check_name
from elseput.errors import BadBook, BadText, TooLarge, UnknownField, UnknownKey, UnknownShape
from elseput.reading import Reader
from elseput.shapes import build_shape, parse_shape

MOST_KEYS = 4
MOST_FIELDS = 3


class Book:
    """Some shapes in order, with the keys and the fields that they may speak of."""

    MOST = 6

    def __init__(self, key_names, field_names, *shapes):
        self.key_names = tuple(key_names)
        self.field_names = tuple(field_names)
        self._shapes = {}
        for name in (*self.key_names, *self.field_names):
            check_name(name)
        if not names_fit(self.key_names, self.field_names):
            raise BadBook()
        for shape in shapes:
            self[shape.name] = shape

    @staticmethod
    def read(text):
        """The book that a text tells."""
        lines = text.split("\n")
        key_names = parse_names(Reader(lines[0], 1), "keys")
        if len(lines) == 1:
            raise BadText(2, 1)
        field_names = parse_names(Reader(lines[1], 2), "fields")
        parsed = [parse_shape(Reader(line, number)) for number, line in enumerate(lines[2:], start=3)]
        shapes = [build_shape(part) for part in parsed]
        return Book(key_names, field_names, *shapes)

    @property
    def full(self):
        """Whether each shape carries each key."""
        return all([key in shape for shape in self._shapes.values() for key in self.key_names])

    def text(self):
        """The text of the book."""
        key_names = " ".join(self.key_names)
        field_names = " ".join(self.field_names)
        shapes = [shape.text() for shape in self._shapes.values()]
        return "\n".join([f"keys {key_names}", f"fields {field_names}", *shapes])

    def __getitem__(self, name):
        if name not in self._shapes:
            raise UnknownShape(name)
        return self._shapes[name]

    def __setitem__(self, name, shape):
        if shape.name != name:
            raise BadBook()
        check_known(shape, self.key_names, self.field_names)
        if len(self._shapes) >= Book.MOST and name not in self._shapes:
            raise TooLarge(Book.MOST)
        self._shapes[name] = shape

    def __contains__(self, name):
        return name in self._shapes

    def __len__(self):
        return len(self._shapes)

    def __iter__(self):
        return iter(self._shapes.values())


def merged(first, *others):
    """A new book with the shapes of all books, which have the same keys and fields."""
    for other in others:
        check_alike(first, other)
    shapes = [shape for book in (first, *others) for shape in book]
    return Book(first.key_names, first.field_names, *shapes)


def check_alike(first, other):
    """Raise BadBook if two books do not have the same keys and fields in the same order."""
    if other.key_names != first.key_names or other.field_names != first.field_names:
        raise BadBook()


def names_fit(key_names, field_names):
    """Whether these are the keys and the fields of a book."""
    if len(key_names) < 1 or len(key_names) > MOST_KEYS:
        return False
    if len(field_names) < 1 or len(field_names) > MOST_FIELDS:
        return False
    names = (*key_names, *field_names)
    return len(set(names)) == len(names)


def check_known(shape, key_names, field_names):
    """Raise UnknownKey or UnknownField for the first name of a shape that is not among these."""
    for key in shape.carried:
        if key not in key_names:
            raise UnknownKey(key)
    for field in (*shape.condition.fields, *shape.change.assigned):
        if field not in field_names:
            raise UnknownField(field)


def parse_names(reader, word):
    """Take a whole line of a word and one or more names."""
    reader.take_one((word,))
    names = [reader.take_name()]
    while not reader.at_end():
        names.append(reader.take_name())
    return names
