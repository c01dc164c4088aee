"""Roles: what the writers of a standing do on the way to its fault."""


class Role:
    """What one writer of a standing does.

    It makes `last` steps. When it has made `ready` of them, it does not keep the others from their last steps any more.
    `busy` tells for each number of steps, from 0 to `last`, whether it then holds the place of the one value that it
    may have in common with another writer, which is a value under `key`.
    """

    def __init__(self, key, last, ready, busy):
        self.key = key
        self.last = last
        self.ready = ready
        self.busy = busy


def putting_role(plan, key):
    """The role of a writer that puts a row, and has looked at the key before another writer puts one."""
    busy = [is_held(plan, key, made) for made in range(len(plan) + 1)]
    # With its put a writer ends, and frees all.
    return Role(key, len(plan) + 1, plan.steps_to_look(key), [*busy, False])


def writing_role(plan, key):
    """The role of a writer that writes into the row under the key, and has read it before another writer writes."""
    read = reach(plan, key)
    return Role(key, read + 1, read, busy_at_row(plan, key, read + 1))


def torn_role(plan, key):
    """The role of a writer that writes into the row under the key before another writer reads it."""
    last = reach(plan, key) + 1
    return Role(key, last, last, busy_at_row(plan, key, last))


def reading_role(plan, key):
    """The role of a writer that reads the row under the key when the others have made all their steps."""
    read = reach(plan, key)
    return Role(key, read, 0, busy_at_row(plan, key, read))


def ring_role(plan, key):
    """The role of a writer that comes to the take of a key and waits there.

    Until then nobody else takes one of the values that it takes.
    """
    steps = plan.steps_before(key)
    return Role(key, steps, 0, [False for _ in range(steps + 1)])


def reach(plan, key):
    """The number of steps of a writer that finds a row under the key, locks it if the plan says so, and reads it."""
    return plan.steps_to_look(key) + (2 if key in plan.locked else 1)


def busy_at_row(plan, key, last):
    """Whether a writer that finds a row under the key holds it, for each number of steps."""
    look = plan.steps_to_look(key)
    # Whoever finds a row frees all but a kept key.
    keeping = key in plan.kept and plan.holds_at_look(key)
    return [is_held(plan, key, made) if made < look else keeping for made in range(last + 1)]


def is_held(plan, key, made):
    """Whether a plan holds a key after so many of its steps."""
    steps = plan.steps[:made]
    return ("take", key) in steps and ("free", key) not in steps


def least_turns(roles):
    """The least order of turns in which each writer makes all its steps, and never waits."""
    lasts = [role.last for role in roles]
    made = [0 for _ in roles]
    turns = []
    dead = {}
    while made != lasts:
        writer = next_writer(roles, made, dead)
        if writer is None:
            # From here nothing leads to the end, so the turn before has to be another one.
            dead[tuple(made)] = True
            made[turns.pop()] -= 1
        else:
            made[writer] += 1
            turns.append(writer)
    return turns


def next_writer(roles, made, dead):
    """The least writer whose next step does not lead to a dead end, or None."""
    for writer, role in enumerate(roles):
        then = [*made[:writer], made[writer] + 1, *made[writer + 1:]]
        if made[writer] < role.last and tuple(then) not in dead and can_have_made(roles, then):
            return writer
    return None


def can_have_made(roles, made):
    """Whether the writers can have made so many steps at some moment on the way to the fault."""
    held = [role.key for role, number in zip(roles, made) if role.busy[number]]
    if len(set(held)) < len(held):
        return False
    through = [number == role.last for role, number in zip(roles, made)]
    late = [number < role.ready for role, number in zip(roles, made)]
    return not any([through[one] and late[other] for one in range(len(made)) for other in range(len(made))])
