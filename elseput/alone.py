"""Statements that run one at a time."""

from elseput.errors import BadRow, BatchRefused, Refused, Taken, UnknownShape


def answer(book, table, statement):
    """Run one statement on a table, and return its outcome."""
    check_statement(book, statement)
    name, places, content = statement
    found = first_taken(book[name], table, places)
    if found is None:
        row = table.put(places, content)
        return ("put", row, numbers_of(book, content))
    key, row = found
    action = book[name].action(key)
    if action == "refuse":
        return ("refused", row, None)
    if action == "tell":
        return ("told", row, numbers_of(book, table.content_of(row)))
    return answer_change(book, table, book[name], row)


def demand(book, table, statement):
    """Run one statement on a table, and return its outcome; raise Refused if it is refused."""
    outcome = answer(book, table, statement)
    if outcome[0] == "refused":
        # A refused statement has changed nothing, so the same key and row are found again.
        name, places, _ = statement
        key, row = first_taken(book[name], table, places)
        raise Refused(key, row) from Taken(key, row)
    return outcome


def run_batch(book, table, *statements):
    """Run all statements on a table, or none of them, and return their outcomes."""
    # They run on a twin first, so that the table is never changed by a batch that is refused.
    twin = table.twin()
    for index, statement in enumerate(statements):
        try:
            demand(book, twin, statement)
        except (UnknownShape, BadRow, Refused) as error:
            raise BatchRefused(index) from error
    return [demand(book, table, statement) for statement in statements]


def check_statement(book, statement):
    """Raise UnknownShape or BadRow if this is not a statement of the book."""
    name, places, content = statement
    shape = book[name]
    if set(places) != set(shape.carried) or set(content) != set(book.field_names):
        raise BadRow()


def first_taken(shape, table, places):
    """The first key of a shape under which the value is taken and the row found there, or None."""
    for key in shape.carried:
        row = table[key, places[key]]
        if row is not None:
            return (key, row)
    return None


def answer_change(book, table, shape, row):
    """Change a row if the condition holds for it, and return the outcome."""
    condition = shape.condition
    change = shape.change
    content = table.content_of(row)
    if not condition(content):
        return ("passed", row, None)
    changed = change(content)
    for field in change.assigned:
        table.write(row, field, changed[field])
    return ("changed", row, numbers_of(book, changed))


def numbers_of(book, content):
    """The numbers of a content, in the order of the fields."""
    return tuple([content[field] for field in book.field_names])
