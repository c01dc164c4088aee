"""Finding the standings of a discipline."""

from elseput.clashes import Clashes
from elseput.rings import least_holders, ring_pairs, rings
from elseput.roles import putting_role, reading_role, ring_role, torn_role, writing_role
from elseput.standings import Meeting, Standing
from elseput.visitors import exclusion, visitor_pairs, visitors


def standings(discipline):
    """Yield all standings of a discipline."""
    # A standing keeps the discipline as it is now.
    fixed = discipline.twin()
    clashes = Clashes(fixed.book, fixed.book)
    yield from doubled_standings(fixed)
    yield from lost_standings(fixed, clashes)
    yield from told_standings(fixed, clashes)
    yield from stuck_standings(fixed)


def doubled_standings(discipline):
    """The standings in which two writers put rows with one value under a key."""
    names = [name for name, _ in discipline]
    cases = [(first, second, key) for at, first in enumerate(names) for second in names[at:]
             for key in common_keys(discipline.book, first, second)]
    return [doubled_standing(discipline, *case) for case in cases if not are_covered(discipline, *case)]


def common_keys(book, first, second):
    """The keys that two shapes both carry, in the order of the book."""
    return [key for key in book.key_names if key in book[first] and key in book[second]]


def are_covered(discipline, first, second, key):
    """Whether the plans of two shapes both cover a key."""
    plan, other = discipline[first], discipline[second]
    return plan.covers(key) and other.covers(key)


def doubled_standing(discipline, first, second, key):
    """The standing of two shapes at a key that their plans do not both cover."""
    roles = [putting_role(discipline[name], key) for name in (first, second)]
    return Standing("doubled", discipline, (first, second), (key,), roles)


def lost_standings(discipline, clashes):
    """The standings in which a writer writes over what another one has written."""
    found = []
    for first, second in visitor_pairs(discipline.book):
        content = clashes.lost_content(first, second)
        if content is not None and exclusion(discipline, first, discipline, second) == "open":
            roles = [writing_role(discipline[name], key) for name, key in (first, second)]
            found.append(met(discipline, "lost", first, second, roles, content))
    return found


def told_standings(discipline, clashes):
    """The standings in which the first writer reads what the second one has not written as a whole."""
    found = []
    everyone = visitors(discipline.book)
    # Any first visitor tears if the second one can be torn.
    torn = [visitor for visitor in everyone if clashes.torn_content(visitor) is not None]
    for first in everyone:
        for second in torn:
            if exclusion(discipline, first, discipline, second) == "open":
                roles = [reading_role(discipline[first[0]], first[1]), torn_role(discipline[second[0]], second[1])]
                content = clashes.torn_content(second)
                found.append(met(discipline, "told", first, second, roles, content))
    return found


def met(discipline, kind, first, second, roles, content):
    """The standing of two visitors that meet at a row with this content."""
    return Meeting(kind, discipline, (first[0], second[0]), (first[1], second[1]), roles, content)


def stuck_standings(discipline):
    """The standings in which writers hold keys in a ring, and each one waits for the next one's."""
    names = least_holders(discipline)
    found = [ring for ring in rings(discipline.book.key_names) if all([pair in names for pair in ring_pairs(ring)])]
    return [stuck_standing(discipline, ring, [names[pair] for pair in ring_pairs(ring)]) for ring in found]


def stuck_standing(discipline, ring, names):
    """The standing in which writers of shapes with these names hold the keys of a ring."""
    roles = [ring_role(discipline[name], pair[1]) for name, pair in zip(names, ring_pairs(ring))]
    return Standing("stuck", discipline, names, ring, roles)
