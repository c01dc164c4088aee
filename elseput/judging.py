"""Judging a discipline."""

from elseput.finding import standings
from elseput.rings import obeyed_orders


class Verdict:
    """Whether a discipline is safe, its first standing with the least cost, and the first order that it obeys."""

    def __init__(self, standing, order):
        self.safe = standing is None
        self.standing = standing
        # A machine has `order` as a property without a setter, so no class stores an attribute of that name.
        self._order = order

    @property
    def order(self):
        """The first order that the discipline obeys, or None."""
        return self._order

    def __bool__(self):
        return bool(self.safe)


def judge(discipline):
    """The verdict about a discipline."""
    found = list(standings(discipline))
    orders = list(obeyed_orders(discipline))
    standing = min(found, key=lambda one: one.cost, default=None)
    return Verdict(standing, orders[0] if len(orders) > 0 else None)
