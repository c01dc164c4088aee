"""Disciplines: a plan for each shape of a book."""

from elseput.books import merged
from elseput.errors import BadPlan
from elseput.plans import Plan


class Discipline:
    """A book, and for each of its shapes the plan by which its statements go."""

    def __init__(self, book):
        self.book = merged(book)
        self._plans = {shape.name: plain_plan(shape) for shape in book}

    @property
    def waste(self):
        """The sum of the waste of all plans."""
        return sum([plan.waste for plan in self._plans.values()])

    @property
    def locks(self):
        """The number of locked keys of all plans."""
        return sum([len(plan.locked) for plan in self._plans.values()])

    @property
    def keeps(self):
        """The number of kept keys of all plans."""
        return sum([len(plan.kept) for plan in self._plans.values()])

    def twin(self):
        """A discipline with the same book and the same plans that shares nothing with this one."""
        return planned(self.book, list(self._plans.values()))

    def __getitem__(self, name):
        shape = self.book[name]
        return self._plans[shape.name]

    def __setitem__(self, name, plan):
        shape = self.book[name]
        if not plan.fits(shape):
            raise BadPlan()
        self._plans[name] = plan

    def __len__(self):
        return len(self._plans)

    def __iter__(self):
        return iter(self._plans.items())


def plain_plan(shape):
    """The plan that takes each key just before it looks at it, and locks what it changes or tells."""
    steps = [(deed, key) for key in shape.carried for deed in ("take", "look")]
    locked = [key for key, action in shape if action != "refuse"]
    return Plan(steps, locked=locked)


def planned(book, plans):
    """The discipline of a book with these plans, one for each of its shapes, in order."""
    found = Discipline(book)
    for shape, plan in zip(book, plans):
        found[shape.name] = plan
    return found
