"""Shapes: the forms that statements have."""

from elseput.changes import build_change, parse_assignments
from elseput.checks import check_name
from elseput.conditions import ALWAYS, build_condition, parse_condition
from elseput.contents import compared_numbers, contents_at
from elseput.errors import BadShape, UnknownKey
from elseput.reading import Reader

ACTIONS = ("change", "tell", "refuse")
MOST_ARMS = 4


class Shape:
    """What statements of one name do at their keys."""

    def __init__(self, name, arms, condition, change):
        self.name = name
        self.arms = tuple([(key, action) for key, action in arms])
        self.condition = condition
        self.change = change
        check_name(name)
        for key in self.carried:
            check_name(key)
        if not arms_fit(self.arms) or not parts_fit(self.arms, condition, change):
            raise BadShape(name)

    @staticmethod
    def read(line):
        """The shape that a line tells."""
        return build_shape(parse_shape(Reader(line)))

    @property
    def carried(self):
        """The keys of the arms, in their order."""
        return tuple([key for key, _ in self.arms])

    def text(self):
        """The text of the shape."""
        arms = ", ".join([f"{key} {action}" for key, action in self.arms])
        parts = [f"{self.name}: {arms}"]
        if self.condition.tree != ALWAYS:
            parts.append(f"when {self.condition.text()}")
        if len(self.change) > 0:
            parts.append(self.change.text())
        return "; ".join(parts)

    def action(self, key):
        """The action at a key."""
        for carried, action in self.arms:
            if carried == key:
                return action
        raise UnknownKey(key)

    def __contains__(self, key):
        return key in self.carried

    def __len__(self):
        return len(self.arms)

    def __iter__(self):
        return iter(self.arms)


def arms_fit(arms):
    """Whether these are arms of a shape."""
    if len(arms) < 1 or len(arms) > MOST_ARMS:
        return False
    if len({key for key, _ in arms}) < len(arms):
        return False
    return all([action in ACTIONS for _, action in arms])


def parts_fit(arms, condition, change):
    """Whether the condition and the change go with the actions of the arms."""
    if any([action == "change" for _, action in arms]):
        return len(change) > 0
    return condition.tree == ALWAYS and len(change) == 0


def parse_shape(reader):
    """Take a whole line that tells a shape: its name, its arms, its condition and its assignments."""
    name = reader.take_name()
    reader.take_one((":",))
    arms = [parse_arm(reader)]
    while reader.skip(","):
        arms.append(parse_arm(reader))
    condition = ALWAYS
    assignments = []
    more = reader.skip(";")
    if more and reader.skip("when"):
        condition = parse_condition(reader)
        more = reader.skip(";")
    if more:
        assignments = parse_assignments(reader)
    reader.take_end()
    return (name, arms, condition, assignments)


def parse_arm(reader):
    """Take one arm."""
    key = reader.take_name()
    return (key, reader.take_one(ACTIONS))


def build_shape(parsed):
    """The shape of what parse_shape took."""
    name, arms, parsed_condition, assignments = parsed
    condition = build_condition(parsed_condition)
    change = build_change(assignments)
    return Shape(name, arms, condition, change)


def parting_row(fields, first, second):
    """The first content that parts two shapes, or None; an empty dict if their arms differ."""
    if first.arms != second.arms:
        return {}
    compared = [
        *compared_numbers([first.condition, second.condition]),
        *set_numbers(first.change, second.change),
        *set_numbers(second.change, first.change),
    ]
    for content in contents_at(fields, compared):
        if changed_row(first, content) != changed_row(second, content):
            return content
    return None


def set_numbers(change, other):
    """The pairs of a field and a number at which a field that the change sets may look unchanged."""
    found = []
    for field, deed, number in change.assignments:
        if deed == "set":
            found.append((field, number))
            found.extend([(field, number - step) for step in added_numbers(field, other)])
    return found


def added_numbers(field, change):
    """The numbers that a change adds to a field: none or one."""
    return [number for name, deed, number in change.assignments if name == field and deed == "add"]


def changed_row(shape, content):
    """What a shape that finds a row with this content makes of it at a change arm."""
    condition = shape.condition
    change = shape.change
    return change(content) if condition(content) else content
