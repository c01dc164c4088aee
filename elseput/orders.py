"""Orders of keys."""

from elseput.checks import check_name
from elseput.errors import BadOrder, UnknownKey


class KeyOrder:
    """Different names, each with its rank."""

    def __init__(self, names):
        self.names = tuple(names)
        for name in self.names:
            check_name(name)
        if len(set(self.names)) < len(self.names):
            raise BadOrder()

    def __getitem__(self, name):
        ranks = [rank for rank, other in enumerate(self.names) if other == name]
        if len(ranks) == 0:
            raise UnknownKey(name)
        return ranks[0]

    def __contains__(self, name):
        return name in self.names

    def __len__(self):
        return len(self.names)

    def __iter__(self):
        return iter(self.names)

    def __add__(self, name):
        return KeyOrder((*self.names, name))

    def __radd__(self, name):
        return KeyOrder((name, *self.names))

    def __iadd__(self, name):
        longer = self + name
        self.names = longer.names
        return self

    def __sub__(self, name):
        if name not in self.names:
            raise UnknownKey(name)
        return KeyOrder([other for other in self.names if other != name])

    def __invert__(self):
        return KeyOrder(self.names[::-1])

    def __call__(self, names):
        for name in names:
            if name not in self.names:
                raise UnknownKey(name)
        return [name for ranked in self.names for name in names if name == ranked]


def every_order(names):
    """Yield the order of each arrangement of some names, in ascending order."""
    for arrangement in arrangements(names):
        yield KeyOrder(arrangement)


def arrangements(names):
    """The tuples of all arrangements of some names; at the first difference, the earlier name comes first."""
    if len(names) == 0:
        return [()]
    found = []
    for first in names:
        others = [name for name in names if name != first]
        found.extend([(first, *later) for later in arrangements(others)])
    return found
