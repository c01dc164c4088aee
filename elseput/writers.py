"""Writers: how far each statement of a machine has come."""


class Writer:
    """One statement, with the steps that it has still to make.

    A step is a pair of a deed and of the key, the row or the field that it is about.
    """

    def __init__(self, statement, shape, plan):
        _, self.places, self.content = statement
        self.shape = shape
        self.plan = plan
        self.steps = ()
        # The row that was found or put, and the key under which it was found.
        self.row = None
        self.key = None
        # What it makes of the row that it has read, and the turn in which it has read it.
        self.changed = None
        self.read_turn = None
        # The turn that places it among the writers of its row; of a change, it is the first write.
        self.mark = None
        self.outcome = None
        self.start()

    def start(self):
        """Go to the first step of the plan."""
        self.steps = (*self.plan.steps, ("put", None))

    def leave_plan(self, key, row):
        """Go on with the row that was found under a key."""
        self.key = key
        self.row = row
        lock = [("lock", row)] if key in self.plan.locked else []
        writes = [("write", field) for field in self.shape.change.assigned]
        self.steps = (*lock, ("read", row), *writes)

    def step_on(self):
        """Go to the step behind the next one."""
        self.steps = self.steps[1:]

    def end(self, word, told):
        """Make no more steps."""
        self.steps = ()
        self.outcome = (word, self.row, told)

    def next_step(self):
        """The next step."""
        return self.steps[0] if len(self.steps) > 0 else ("idle", None)

    def next_place(self):
        """The place that the next step takes and the mode in which it takes it, or None if it takes none."""
        deed, thing = self.next_step()
        if deed == "take":
            return (self.key_place(thing), "hold")
        if deed == "lock":
            return (("row", thing), "hold" if self.shape.action(self.key) == "change" else "share")
        return None

    def key_place(self, key):
        """The place of its value under a key."""
        return ("key", key, self.places[key])

    def is_midway(self):
        """Whether it has made some but not all of its writes."""
        return self.mark is not None and self.outcome is None
