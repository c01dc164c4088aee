"""Plans: how a writer goes through its keys."""

from elseput.checks import check_name
from elseput.errors import BadPlan, UnknownKey
from elseput.reading import Reader

DEEDS = ("take", "look", "free")


class Plan:
    """Steps that take, look at and free keys; some keys are locked and some are kept."""

    def __init__(self, steps, *, locked=(), kept=()):
        self.steps = tuple([(deed, key) for deed, key in steps])
        for key in (*[key for _, key in self.steps], *locked, *kept):
            check_name(key)
        if not steps_fit(self.steps) or not keys_fit(self.steps, locked) or not keys_fit(self.steps, kept):
            raise BadPlan()
        self.locked = tuple([key for key in looked_at(self.steps) if key in locked])
        self.kept = tuple([key for key in looked_at(self.steps) if key in kept])

    @staticmethod
    def read(line):
        """The plan that a line tells."""
        steps, locked, kept = parse_plan(Reader(line))
        return Plan(steps, locked=locked, kept=kept)

    @property
    def waste(self):
        """The number of keys that are held at a look but looked at later, summed over all looks."""
        looked = looked_at(self.steps)
        earlier = [(key, later) for at, key in enumerate(looked) for later in looked[at + 1:]]
        return len([key for key, later in earlier if self._holds(later, ("look", key))])

    def text(self):
        """The text of the plan."""
        parts = [", ".join([f"{deed} {key}" for deed, key in self.steps])]
        for word, names in (("lock", self.locked), ("keep", self.kept)):
            if len(names) > 0:
                parts.append(" ".join([word, *names]))
        return "; ".join(parts)

    def fits(self, shape):
        """Whether the plan goes through the keys of a shape, with no locked or kept key at a refuse arm."""
        if looked_at(self.steps) != shape.carried:
            return False
        return all([shape.action(key) != "refuse" for key in (*self.locked, *self.kept)])

    def steps_before(self, key):
        """The number of steps before the one that takes a key, or None."""
        self._check_looked_at(key)
        step = ("take", key)
        return self._place(step) if step in self.steps else None

    def steps_to_look(self, key):
        """The number of steps up to the look at a key, this look included."""
        self._check_looked_at(key)
        return self._place(("look", key)) + 1

    def holds_at_look(self, key):
        """Whether a key is held when the plan looks at it."""
        self._check_looked_at(key)
        return self._holds(key, ("look", key))

    def covers(self, key):
        """Whether a key is held when the plan looks at it, and is never freed."""
        return self.holds_at_look(key) and ("free", key) not in self.steps

    def pairs(self):
        """The pairs of different keys of which the first one is held when the second one is taken."""
        taken = [key for deed, key in self.steps if deed == "take"]
        return [(first, second) for second in taken for first in taken if self._holds(first, ("take", second))]

    def __len__(self):
        return len(self.steps)

    def __iter__(self):
        return iter(self.steps)

    def _check_looked_at(self, key):
        if ("look", key) not in self.steps:
            raise UnknownKey(key)

    def _holds(self, key, step):
        """Whether a key has been taken and not been freed before a step."""
        made = self.steps[:self._place(step)]
        return ("take", key) in made and ("free", key) not in made

    def _place(self, step):
        """The number of steps before this one."""
        return [at for at, other in enumerate(self.steps) if other == step][0]


def looked_at(steps):
    """The keys that steps look at, in order."""
    return tuple([key for deed, key in steps if deed == "look"])


def steps_fit(steps):
    """Whether these are steps of a plan."""
    if len(steps) == 0 or len(set(steps)) < len(steps):
        return False
    return all([step_fits(steps, at) for at in range(len(steps))])


def step_fits(steps, at):
    """Whether the step at this place has one of the three deeds and may be done to its key there."""
    deed, key = steps[at]
    if deed == "free" and ("take", key) not in steps[:at]:
        return False
    return deed in DEEDS and ("look", key) in steps


def keys_fit(steps, names):
    """Whether the locked or the kept keys are different and all looked at."""
    if len(set(names)) < len(names):
        return False
    return all([("look", name) in steps for name in names])


def parse_plan(reader):
    """Take a whole line that tells a plan: its steps, its locked keys and its kept keys."""
    steps = [parse_step(reader)]
    while reader.skip(","):
        steps.append(parse_step(reader))
    locked = []
    kept = []
    more = reader.skip(";")
    if more and reader.skip("lock"):
        locked = parse_keys(reader)
        more = reader.skip(";")
    if more:
        reader.take_one(("keep",))
        kept = parse_keys(reader)
    reader.take_end()
    return (steps, locked, kept)


def parse_step(reader):
    """Take one step."""
    deed = reader.take_one(DEEDS)
    return (deed, reader.take_name())


def parse_keys(reader):
    """Take one or more names, up to a semicolon or the end of the line."""
    names = [reader.take_name()]
    while not reader.at_end() and reader.ahead() != ";":
        names.append(reader.take_name())
    return names
