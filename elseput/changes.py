"""Changes: what a statement does to the numbers of a row."""

from elseput.checks import check_name, check_number, check_times
from elseput.errors import TooLarge, UnknownField
from elseput.reading import Reader


class Change:
    """Some assignments, each for a different field."""

    MOST = 3

    def __init__(self, assignments):
        self.assignments = tuple(assignments)

    @staticmethod
    def none():
        """The change without assignments."""
        return Change(())

    @staticmethod
    def adding(field, number):
        """The change that adds a number to a field."""
        check_name(field)
        check_number(number)
        return Change(((field, "add", number),))

    @staticmethod
    def setting(field, number):
        """The change that sets a field to a number."""
        check_name(field)
        check_number(number)
        return Change(((field, "set", number),))

    @staticmethod
    def read(line):
        """The change that a line tells."""
        reader = Reader(line)
        parsed = [] if reader.at_end() else parse_assignments(reader)
        reader.take_end()
        return build_change(parsed)

    @property
    def assigned(self):
        """The fields of the assignments, in their order."""
        return tuple([part[0] for part in self.assignments])

    def text(self):
        """The text of the change."""
        return ", ".join([f"{deed} {field} {number}" for field, deed, number in self.assignments])

    def __call__(self, content):
        for field in self.assigned:
            if field not in content:
                raise UnknownField(field)
        changed = dict(content)
        for field, deed, number in self.assignments:
            changed[field] = number if deed == "set" else changed[field] + number
        return changed

    def __len__(self):
        return len(self.assignments)

    def __rshift__(self, other):
        both = [followed(part, other.assignments) for part in self.assignments]
        new = [part for part in other.assignments if part[0] not in self.assigned]
        if len(both) + len(new) > Change.MOST:
            raise TooLarge(Change.MOST)
        return Change((*both, *new))

    def __mul__(self, times):
        check_times(times)
        if times == 0:
            return Change.none()
        return Change([repeated(part, times) for part in self.assignments])

    def __rmul__(self, times):
        return self * times


def followed(assignment, later):
    """An assignment and then the later one of the same field, if there is one, as one assignment."""
    field, deed, number = assignment
    for other, later_deed, later_number in later:
        if other == field and later_deed == "set":
            return (field, "set", later_number)
        if other == field:
            return (field, deed, number + later_number)
    return assignment


def repeated(assignment, times):
    """An assignment made some times, at least once, as one assignment."""
    field, deed, number = assignment
    return (field, deed, number * times) if deed == "add" else assignment


def parse_assignments(reader):
    """Take one or more assignments that are separated by commas."""
    parsed = [parse_assignment(reader)]
    while reader.skip(","):
        parsed.append(parse_assignment(reader))
    return parsed


def parse_assignment(reader):
    """Take one assignment."""
    deed = reader.take_one(("add", "set"))
    field = reader.take_name()
    return (field, deed, reader.take_integer())


def build_change(parsed):
    """The change of assignments that were read, joined from left to right."""
    whole = Change.none()
    for field, deed, number in parsed:
        part = Change.adding(field, number) if deed == "add" else Change.setting(field, number)
        whole = whole >> part
    return whole
