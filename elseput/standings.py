"""Standings: small cases in which a discipline goes wrong."""

from elseput.roles import least_turns
from elseput.tables import Table
from elseput.weavings import Weaving


class Standing:
    """A fault of some kind, and what leads to it: a table, statements and turns.

    The discipline is one that nobody changes; each writer has a name, the name of its shape, and a role.
    """

    def __init__(self, kind, discipline, names, path, roles):
        self.kind = kind
        self.names = tuple(names)
        self.path = tuple(path)
        self.cost = sum([role.last for role in roles])
        self._book = discipline.book
        self._roles = tuple(roles)

    def table(self):
        """The table on which the writers begin."""
        return Table(self._book.key_names, self._book.field_names)

    def statements(self):
        """The statements of the writers."""
        return [self._statement(writer) for writer in range(len(self.names))]

    def weaving(self):
        """The least order of turns that leads to the fault."""
        return Weaving(least_turns(self._roles))

    def sentence(self):
        """What the standing is, in words."""
        names = " ".join(self.names)
        path = " ".join(self.path)
        return f"{self.kind}: {names} at {path} in {self.cost} turns"

    def _statement(self, writer):
        name = self.names[writer]
        common = self._common_keys(writer)
        places = {key: 0 if key in common else writer + 1 for key in self._book[name].carried}
        return (name, places, {field: 0 for field in self._book.field_names})

    def _common_keys(self, writer):
        """The keys under which a writer has the value 0, as other writers have."""
        # Behind the last key of the path the first one follows; a path of one key is the same for all.
        return (self.path[writer % len(self.path)], self.path[(writer + 1) % len(self.path)])


class Meeting(Standing):
    """A standing of two writers that meet at a row that is there already."""

    def __init__(self, kind, discipline, names, path, roles, content):
        super().__init__(kind, discipline, names, path, roles)
        self._content = dict(content)

    def table(self):
        """The table on which the writers begin, with the row at which they meet."""
        table = super().table()
        table.put({key: 0 for key in self.path}, self._content)
        return table

    def sentence(self):
        """What the standing is, in words, with the row at which the writers meet."""
        beginning = super().sentence()
        numbers = " ".join([str(self._content[field]) for field in self._book.field_names])
        return f"{beginning}, row {numbers}"

    def _common_keys(self, writer):
        """The key under which a writer finds the row."""
        return (self.path[writer],)
