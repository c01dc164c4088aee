"""The machine: many writers that work on one table, turn by turn."""

from elseput.alone import check_statement, numbers_of
from elseput.errors import BadNumber, BadTurn
from elseput.locks import LockTable
from elseput.weavings import Weaving
from elseput.writers import Writer


class Machine:
    """Writers, the table on which they work, the places that they hold, and what has happened so far."""

    def __init__(self, discipline, table, statements):
        for statement in statements:
            check_statement(discipline.book, statement)
        self._discipline = discipline.twin()
        self._first_table = table.twin()
        self._statements = [(name, dict(places), dict(content)) for name, places, content in statements]
        self._begin()

    @property
    def outcomes(self):
        """The outcome of each writer, None for one that has not ended."""
        return [writer.outcome for writer in self._writers]

    @property
    def events(self):
        """The events of all turns."""
        return list(self._events)

    @property
    def faults(self):
        """All faults so far."""
        return list(self._faults)

    @property
    def unfinished(self):
        """The writers that have not ended."""
        return [number for number, writer in enumerate(self._writers) if writer.outcome is None]

    @property
    def waiting(self):
        """The writers that have not ended and cannot make their next step now."""
        return [number for number in self.unfinished if len(self._blockers(number)) > 0]

    @property
    def ended(self):
        """Whether all writers have ended."""
        return len(self.unfinished) == 0

    @property
    def stuck(self):
        """Whether some writers have not ended and all of these are waiting."""
        return not self.ended and self.waiting == self.unfinished

    @property
    def order(self):
        """The ended writers by their rows, and for the same row by their marks."""
        ended = [(writer.row, writer.mark, number) for number, writer in enumerate(self._writers)
                 if writer.outcome is not None]
        return [number for row, mark, number in sorted(ended)]

    @property
    def ring(self):
        """The writers that wait for each other if the machine is stuck, beginning with the least."""
        if not self.stuck:
            return []
        # The least writer need not be in the ring, but comes to it at last.
        inside = self._path(self.unfinished[0])[-1]
        return self._path(min(self._path(inside)))

    def __call__(self, writer):
        return self._turn(writer)

    def play(self, turns):
        """Give turns to writers in this order, and return their events."""
        return [self._turn(number) for number in turns]

    def settle(self):
        """Give turns to the least writer that can go on until there is none, and return how many these were."""
        turns = 0
        able = self._able()
        while len(able) > 0:
            self._turn(able[0])
            turns += 1
            able = self._able()
        return turns

    def undo(self, count):
        """Take back the last turns, and return a weaving of them."""
        if count < 0 or count > len(self._events):
            raise BadNumber(count)
        turns = [event[0] for event in self._events]
        left = len(turns) - count
        # What a turn does depends on nothing but the turns before it.
        self._begin()
        self.play(turns[:left])
        return Weaving(turns[left:])

    def rows(self):
        """The places and the content of each row of the table."""
        return self._table.rows()

    def held(self, writer):
        """The places that a writer holds."""
        return self._locks.held(writer)

    def recovered(self):
        """A table with all rows, on which only the writers that have ended have written."""
        table = self._first_table.twin()
        for number, deed, thing in self._events:
            writer = self._writers[number]
            if deed == "put":
                table.enter(writer.places, writer.content)
            elif deed == "write" and writer.outcome is not None:
                table.write(writer.row, thing, writer.changed[thing])
        return table

    def resumed(self):
        """A new machine for the writers that have not ended, with the recovered table."""
        return Machine(self._discipline, self.recovered(), self._unfinished_statements())

    def _begin(self):
        """Be as before the first turn."""
        self._table = self._first_table.twin()
        self._locks = LockTable()
        self._writers = [self._new_writer(statement) for statement in self._statements]
        self._events = []
        self._faults = []

    def _new_writer(self, statement):
        name = statement[0]
        return Writer(statement, self._discipline.book[name], self._discipline[name])

    def _unfinished_statements(self):
        return [self._statements[number] for number in self.unfinished]

    def _able(self):
        """The writers that have not ended and can make their next step now."""
        waiting = self.waiting
        return [number for number in self.unfinished if number not in waiting]

    def _blockers(self, number):
        """The writers that keep a writer from making its next step."""
        wanted = self._writers[number].next_place()
        if wanted is None:
            return []
        place, mode = wanted
        return self._locks.blockers(place, number, mode)

    def _path(self, number):
        """The writers from this one to the holder of the place for which it waits, and so on; each once."""
        path = [number]
        holder = self._blockers(number)[0]
        while holder not in path:
            path.append(holder)
            holder = self._blockers(holder)[0]
        return path

    def _turn(self, number):
        """Give one turn to a writer, and return its event."""
        if number < 0 or number >= len(self._writers):
            raise BadTurn(number)
        was_stuck = self.stuck
        deed, thing = self._step(number)
        if self.stuck and not was_stuck:
            self._blame("stuck", number, None)
            self._got_stuck()
        # The event comes last, so that until then the number of events is the number of this turn.
        event = (number, deed, thing)
        self._events.append(event)
        return event

    def _got_stuck(self):
        """Do something about being stuck: a plain machine does nothing."""

    def _blame(self, kind, number, row):
        """Note a fault of this turn."""
        self._faults.append((kind, len(self._events), number, row))

    def _step(self, number):
        """Let a writer make its next step, and return the deed and the thing of its event."""
        deed, thing = self._writers[number].next_step()
        if deed == "take" or deed == "lock":
            return self._take(number)
        if deed == "free":
            return self._free(number, thing)
        if deed == "look":
            return self._look(number, thing)
        if deed == "put":
            return self._put(number)
        if deed == "read":
            return self._read(number)
        if deed == "write":
            return self._write(number, thing)
        return (deed, thing)

    def _take(self, number):
        writer = self._writers[number]
        place, mode = writer.next_place()
        if not self._locks.take(place, number, mode):
            return ("wait", place)
        step = writer.next_step()
        writer.step_on()
        return step

    def _free(self, number, key):
        writer = self._writers[number]
        self._locks.free(writer.key_place(key), number)
        writer.step_on()
        return ("free", key)

    def _look(self, number, key):
        writer = self._writers[number]
        row = self._table[key, writer.places[key]]
        if row is None:
            writer.step_on()
            return ("look", key)
        writer.leave_plan(key, row)
        if writer.shape.action(key) == "refuse":
            return self._finish(number, "refuse", "refused", None)
        kept = [writer.key_place(key)] if key in writer.plan.kept else []
        self._locks.free_all(number, *kept)
        return ("find", row)

    def _put(self, number):
        writer = self._writers[number]
        taken = [key for key, value in writer.places.items() if self._table[key, value] is not None]
        writer.row = self._table.enter(writer.places, writer.content)
        if len(taken) > 0:
            self._blame("doubled", number, writer.row)
        return self._finish(number, "put", "put", writer.content)

    def _read(self, number):
        writer = self._writers[number]
        if any([other.row == writer.row and other.is_midway() for other in self._writers]):
            self._blame("told", number, writer.row)
        content = self._table.content_of(writer.row)
        if writer.shape.action(writer.key) == "tell":
            return self._finish(number, "tell", "told", content)
        condition = writer.shape.condition
        change = writer.shape.change
        if not condition(content):
            return self._finish(number, "pass", "passed", None)
        writer.changed = change(content)
        writer.read_turn = len(self._events)
        writer.step_on()
        return ("read", writer.row)

    def _write(self, number, field):
        writer = self._writers[number]
        if self._is_lost(number):
            self._blame("lost", number, writer.row)
        self._table.write(writer.row, field, writer.changed[field])
        if writer.mark is None:
            writer.mark = len(self._events)
        writer.step_on()
        if len(writer.steps) == 0:
            self._finish(number, "write", "changed", writer.changed)
        return ("write", field)

    def _is_lost(self, number):
        """Whether another writer has written into the row since this one has read it."""
        writer = self._writers[number]
        later = self._events[writer.read_turn:]
        others = [other for other, deed, _ in later if deed == "write" and other != number]
        return any([self._writers[other].row == writer.row for other in others])

    def _finish(self, number, deed, word, told):
        """End a writer that tells this content or None, and return the deed and the thing of its event."""
        writer = self._writers[number]
        if writer.mark is None:
            writer.mark = len(self._events)
        writer.end(word, None if told is None else numbers_of(self._discipline.book, told))
        self._locks.free_all(number)
        return (deed, writer.row)
