"""Reports of what has happened in a machine."""

from elseput.errors import BadNumber

LEAST_WIDTH = 4
MOST_WIDTH = 40


class Report:
    """The events and the faults of a machine, as lines."""

    def __init__(self, machine, *, width=12):
        self._machine = machine
        self.width = width

    @property
    def width(self):
        """The width of the last column of the events."""
        return self._width

    @width.setter
    def width(self, value):
        if value < LEAST_WIDTH or value > MOST_WIDTH:
            raise BadNumber(value)
        self._width = value

    def change_width(self, value):
        """Set the width of the last column of the events."""
        self.width = value

    def lines(self):
        """Yield a line for each event, and then one for each fault."""
        events = [event_line(turn, event, self._width) for turn, event in enumerate(self._machine.events)]
        faults = [fault_line(fault) for fault in self._machine.faults]
        yield from events
        yield from faults


def event_line(turn, event, width):
    """The line of the event of a turn."""
    writer, deed, thing = event
    shown = thing_text(deed, thing)[:width]
    return f"{turn:>4}  {writer:>2}  {deed:<6}  {shown}".rstrip()


def thing_text(deed, thing):
    """What the event of a deed is about: a place, a row, a key, a field, or nothing."""
    if thing is None:
        return "-"
    if deed == "wait":
        return " ".join([str(part) for part in thing])
    return f"row {thing}" if isinstance(thing, int) else thing


def fault_line(fault):
    """The line of a fault."""
    kind, turn, writer, row = fault
    start = f"{kind} at {turn} by {writer}"
    return start if row is None else f"{start} in row {row}"
