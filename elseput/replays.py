"""Statements that are run again, one at a time."""

from elseput.alone import answer
from elseput.errors import BadTurn


def replay(book, table, statements, order):
    """The rows and the outcomes after some statements have run on a twin of the table in this order."""
    for number in order:
        if number < 0 or number >= len(statements):
            raise BadTurn(number)
    twin = table.twin()
    outcomes = [None for _ in statements]
    for number in order:
        outcomes[number] = answer(book, twin, statements[number])
    return (twin.rows(), outcomes)
