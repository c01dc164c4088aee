"""Locks: which writers hold which places."""


class LockTable:
    """The places that are held; each hold has a writer and the mode "share" or "hold"."""

    def __init__(self):
        # By place, the modes by writer; by writer, its places in the order in which it took them.
        self._modes = {}
        self._places = {}

    def blockers(self, place, writer, mode):
        """The other writers that keep a writer from taking a place, in ascending order."""
        others = [pair for pair in self.holders(place) if pair[0] != writer]
        return [other for other, other_mode in others if "hold" in (mode, other_mode)]

    def take(self, place, writer, mode):
        """Let a writer hold a place unless it has blockers, and return whether it does."""
        if len(self.blockers(place, writer, mode)) > 0:
            return False
        modes = self._modes.setdefault(place, {})
        if modes.get(writer) != "hold":
            modes[writer] = mode
        places = self._places.setdefault(writer, {})
        places[place] = True
        return True

    def free(self, place, writer):
        """End the hold of a writer on a place, and return whether there was one."""
        if place not in self._places.get(writer, {}):
            return False
        del self._modes[place][writer]
        del self._places[writer][place]
        return True

    def free_all(self, writer, *kept):
        """End all holds of a writer but those on some places, and return how many have ended."""
        freed = [place for place in self.held(writer) if place not in kept]
        for place in freed:
            self.free(place, writer)
        return len(freed)

    def holders(self, place):
        """The pairs of a writer that holds a place and its mode, by ascending writer."""
        return sorted(list(self._modes.get(place, {}).items()))

    def held(self, writer):
        """The places that a writer holds, in the order in which it took them."""
        return list(self._places.get(writer, {}))
