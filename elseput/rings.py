"""Rings: keys that plans take while they hold other ones, in a circle or in some order."""

from elseput.orders import every_order

MOST_IN_RING = 4


def obeyed_orders(discipline):
    """Yield the orders of the keys that a discipline obeys."""
    pairs = list(least_holders(discipline))
    for order in every_order(discipline.book.key_names):
        if all([order[first] < order[second] for first, second in pairs]):
            yield order


def least_holders(discipline):
    """For each pair of a key and one that is taken while it is held, the shape that comes to this take first.

    That is the name of the first shape of those with the least number of steps before the take.
    """
    names = {}
    least = {}
    for name, plan in discipline:
        for pair in plan.pairs():
            steps = plan.steps_before(pair[1])
            if pair not in least or steps < least[pair]:
                least[pair] = steps
                names[pair] = name
    return names


def ring_pairs(ring):
    """The pairs of each key of a ring and the next one."""
    return [(key, ring[(at + 1) % len(ring)]) for at, key in enumerate(ring)]


def rings(key_names):
    """All rings of these keys, each beginning with its earliest key: first by their length, then by their keys."""
    sizes = range(2, MOST_IN_RING + 1)
    return [ring for size in sizes for at, key in enumerate(key_names)
            for ring in rings_from((key,), key_names[at + 1:], size)]


def rings_from(begun, later, size):
    """The rings of this many keys that begin with these ones and go on with some of the later ones."""
    if len(begun) == size:
        return [begun]
    return [ring for key in later if key not in begun for ring in rings_from((*begun, key), later, size)]
