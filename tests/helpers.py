"""What the tests share."""

import itertools
import unittest

from elseput.books import Book
from elseput.changes import Change
from elseput.conditions import Condition
from elseput.disciplines import Discipline
from elseput.errors import BadText, ElseputError
from elseput.plans import Plan
from elseput.shapes import Shape
from elseput.tables import Table

BOUND = 10 ** 30
SIGNS = ("<", "<=", "==", "!=", ">=", ">")
RESERVED = (
    "always never and or not when add set change tell refuse take look free lock keep keys fields"
).split()
BAD_NAMES = ["", "a" * 13, "A", "aB", "a1", "a b", " a", "a ", "a_b", "1", "-", *RESERVED]


def discipline(text, **plans):
    """The discipline of a book, with these texts of plans for some of its shapes."""
    found = Discipline(Book.read(text))
    for name, line in plans.items():
        found[name] = Plan.read(line)
    return found


def table(book, *rows):
    """A table for a book, with rows that are pairs of places and the numbers of the fields."""
    found = Table(book.key_names, book.field_names)
    for places, numbers in rows:
        found.enter(places, dict(zip(book.field_names, numbers)))
    return found


def state(machine):
    """Nearly all that a machine returns."""
    recovered = machine.recovered()
    return {
        "outcomes": machine.outcomes, "events": machine.events, "faults": machine.faults, "waiting": machine.waiting,
        "order": machine.order, "unfinished": machine.unfinished, "ring": machine.ring, "ended": machine.ended,
        "stuck": machine.stuck, "rows": machine.rows(), "recovered": recovered.rows(),
        "held": [machine.held(writer) for writer in range(len(machine.outcomes))],
        "restarts": getattr(machine, "restarts", None),
    }


def drawn_condition(rng, fields, most=3):
    """A condition with at most so many comparisons; often one that is always or never."""
    if rng.random() < 0.4:
        return rng.choice((Condition.always(), Condition.always(), Condition.never()))
    found = Condition.compare(rng.choice(fields), rng.choice(SIGNS), rng.randint(-2, 3))
    for _ in range(rng.randint(1, most) - 1):
        part = Condition.compare(rng.choice(fields), rng.choice(SIGNS), rng.randint(-2, 3))
        found = found & part if rng.random() < 0.6 else found | part
    return found


def drawn_change(rng, fields):
    """A change with one assignment or more."""
    found = Change.none()
    for field in rng.sample(fields, rng.randint(1, len(fields))):
        part = Change.adding if rng.random() < 0.6 else Change.setting
        found = found >> part(field, rng.randint(-2, 2))
    return found


def drawn_shape(rng, name, keys, fields):
    carried = rng.sample(keys, rng.randint(1, len(keys)))
    arms = [(key, rng.choice(("change", "change", "change", "tell", "refuse"))) for key in carried]
    if all(action != "change" for _, action in arms):
        return Shape(name, arms, Condition.always(), Change.none())
    return Shape(name, arms, drawn_condition(rng, fields), drawn_change(rng, fields))


def drawn_book(rng, keys=4, fields=3, shapes=6):
    """A book with at most so many keys, fields and shapes; its names are not in alphabetical order."""
    key_names = list("dacb")[:rng.randint(1, keys)]
    field_names = list("nmk")[:rng.randint(1, fields)]
    names = ["tfsbca"[at] * 2 for at in range(rng.randint(0, shapes))]
    return Book(key_names, field_names, *[drawn_shape(rng, name, key_names, field_names) for name in names])


def drawn_plan(rng, shape):
    """A plan that fits the shape, with takes ahead, late and missing, and freed, locked and kept keys."""
    steps = [("look", key) for key in shape.carried]
    for key in shape.carried:
        look = steps.index(("look", key))
        if rng.random() < 0.9:
            place = rng.randint(0, look if rng.random() < 0.8 else len(steps))
            steps.insert(place, ("take", key))
            if rng.random() < 0.25:
                steps.insert(rng.randint(place + 1, len(steps)), ("free", key))
    free = [key for key, action in shape if action != "refuse"]
    locked, kept = [[key for key in free if rng.random() < rng.choice((0.2, 0.5, 1))] for _ in range(2)]
    return Plan(steps, locked=locked, kept=kept)


def drawn_discipline(rng, book):
    found = Discipline(book)
    for shape in book:
        if rng.random() < 0.9:
            found[shape.name] = drawn_plan(rng, shape)
    return found


def drawn_table(rng, book, most=3):
    """A table of at most so many rows of which no two have the same value under one key."""
    found = Table(book.key_names, book.field_names)
    for _ in range(rng.choice((0, rng.randint(0, most)))):
        keys = rng.sample(book.key_names, rng.randint(1, len(book.key_names)))
        places = {key: rng.randint(0, 3) for key in keys}
        if all(found[place] is None for place in places.items()):
            found.put(places, {field: rng.randint(-3, 3) for field in book.field_names})
    return found


def drawn_statements(rng, book, most=4):
    """At most so many statements; many of them have a value in common, and sometimes all."""
    shapes = list(book)
    greatest = rng.choice((0, 1, 2, 2))
    found = []
    for _ in range(rng.randint(0, most) if shapes else 0):
        shape = rng.choice(shapes)
        places = {key: rng.randint(0, greatest) for key in shape.carried}
        found.append((shape.name, places, {field: rng.randint(-3, 3) for field in book.field_names}))
    return found


def largest_book(shape="when n < 0 or m > 1 and k == 2; add n 1, set m 2, add k 3"):
    """A book with as many keys, fields and shapes as there may be, in which each shape carries all keys."""
    orders = list(itertools.permutations("abcd"))[::4]
    lines = ["keys a b c d", "fields n m k"]
    for name, keys in zip("uvwxyz", orders):
        arms = ", ".join(f"{key} change" for key in keys)
        lines.append(f"{name}: {arms}; {shape}")
    return Book.read("\n".join(lines))


class Case(unittest.TestCase):
    def fails(self, kind, fields, call, *given):
        """The call raises exactly this error with these fields."""
        with self.assertRaises(ElseputError) as caught:
            call(*given)
        self.assertIs(type(caught.exception), kind)
        self.assertEqual({name: getattr(caught.exception, name) for name in fields}, fields)

    def bad_text(self, line, column, call, *given):
        self.fails(BadText, {"line": line, "column": column}, call, *given)

    def bad_column(self, call, line, column):
        """Reading the line, which is the whole text, fails at this column."""
        with self.subTest(line=line):
            self.bad_text(1, column, call, line)
