"""Tables: rows that are found by their values under keys."""

from elseput.errors import BadRow, NoRow, Taken, UnknownField, UnknownKey


class Table:
    """Rows, numbered from 0 in the order in which they are added."""

    def __init__(self, key_names, field_names):
        self.key_names = tuple(key_names)
        self.field_names = tuple(field_names)
        self._rows = []
        # The least number of a row with this value under this key; places never change, so it stays.
        self._first_rows = {}

    def put(self, places, content):
        """Add a row of which no row has one of the values yet, and return its number."""
        self._check_new(places, content)
        for key in self.key_names:
            if key in places:
                row = self[key, places[key]]
                if row is not None:
                    raise Taken(key, row)
        return self._add(places, content)

    def enter(self, places, content):
        """Add a row, and return its number."""
        self._check_new(places, content)
        return self._add(places, content)

    def content_of(self, row):
        """A copy of the content of a row."""
        self._check_row(row)
        return dict(self._rows[row][1])

    def rows(self):
        """The places and the content of each row, as copies."""
        return [(dict(places), dict(content)) for places, content in self._rows]

    def write(self, row, field, number):
        """Replace one number of the content of a row."""
        self._check_row(row)
        if field not in self.field_names:
            raise UnknownField(field)
        content = self._rows[row][1]
        content[field] = number

    def twin(self):
        """A table with the same keys, fields and rows that shares nothing with this one."""
        other = Table(self.key_names, self.field_names)
        for places, content in self.rows():
            other.enter(places, content)
        return other

    def __getitem__(self, place):
        key, value = place
        if key not in self.key_names:
            raise UnknownKey(key)
        return self._first_rows.get((key, value))

    def __len__(self):
        return len(self._rows)

    def __iter__(self):
        raise TypeError("the rows of a table are told by rows()")

    def _check_new(self, places, content):
        if len(places) == 0 or any([key not in self.key_names for key in places]):
            raise BadRow()
        if set(content) != set(self.field_names):
            raise BadRow()

    def _check_row(self, row):
        if row < 0 or row >= len(self._rows):
            raise NoRow(row)

    def _add(self, places, content):
        number = len(self._rows)
        own_places = {key: places[key] for key in self.key_names if key in places}
        own_content = {field: content[field] for field in self.field_names}
        self._rows.append((own_places, own_content))
        for key, value in own_places.items():
            if (key, value) not in self._first_rows:
                self._first_rows[key, value] = number
        return number
