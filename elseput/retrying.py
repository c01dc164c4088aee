"""Retrying machines: they are never stuck between two turns."""

from elseput.machine import Machine


class RetryingMachine(Machine):
    """A machine that restarts a writer as soon as it is stuck."""

    def __init__(self, discipline, table, statements):
        super().__init__(discipline, table, statements)

    @property
    def restarts(self):
        """The turn and the writer of each restart."""
        return list(self._restarts)

    def resumed(self):
        """A new retrying machine for the writers that have not ended, with the recovered table."""
        return RetryingMachine(self._discipline, self.recovered(), self._unfinished_statements())

    def _begin(self):
        """Be as before the first turn."""
        super()._begin()
        self._restarts = []

    def _got_stuck(self):
        """Restart the greatest writer of the ring, which lets the writer before it go on."""
        number = max(self.ring)
        self._locks.free_all(number)
        self._writers[number].start()
        self._restarts.append((len(self._events), number))
