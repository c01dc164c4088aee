"""Weavings: orders of turns."""

from elseput.checks import check_times
from elseput.errors import BadTurn
from elseput.reading import Reader


class Weaving:
    """The numbers of some writers in the order of their turns."""

    def __init__(self, turns):
        self.turns = tuple(turns)
        # Weavings compare by their length first; it is kept beside the turns, as all that they compare by is.
        self._many = len(self.turns)
        for writer in self.turns:
            if writer < 0:
                raise BadTurn(writer)

    @staticmethod
    def read(line):
        """The weaving that a line tells."""
        reader = Reader(line)
        turns = []
        while not reader.at_end():
            turns.append(reader.take_natural())
        return Weaving(turns)

    def text(self):
        """The text of the weaving."""
        return " ".join([str(writer) for writer in self.turns])

    def without(self, writer):
        """The weaving without the turns of a writer."""
        return Weaving([other for other in self.turns if other != writer])

    def __len__(self):
        return len(self.turns)

    def __iter__(self):
        return iter(self.turns)

    def __add__(self, other):
        return Weaving((*self.turns, *other.turns))

    def __iadd__(self, other):
        self.turns = (*self.turns, *other.turns)
        self._many = len(self.turns)
        return self

    def __mul__(self, times):
        check_times(times)
        return Weaving(self.turns * times)

    def __rmul__(self, times):
        return self * times

    def __eq__(self, other):
        if not isinstance(other, Weaving):
            return NotImplemented
        return (self._many, self.turns) == (other._many, other.turns)

    def __lt__(self, other):
        if not isinstance(other, Weaving):
            return NotImplemented
        return (self._many, self.turns) < (other._many, other.turns)

    def __le__(self, other):
        if not isinstance(other, Weaving):
            return NotImplemented
        return (self._many, self.turns) <= (other._many, other.turns)


def interleavings(counts):
    """Yield the weavings with this number of turns of each writer, in ascending order."""
    for turns in arranged_turns(counts):
        yield Weaving(turns)


def arranged_turns(counts):
    """The tuples with this number of turns of each writer, in ascending order."""
    if sum(counts) == 0:
        return [()]
    found = []
    for writer, count in enumerate(counts):
        if count > 0:
            left = [*counts[:writer], count - 1, *counts[writer + 1:]]
            found.extend([(writer, *later) for later in arranged_turns(left)])
    return found
