"""Contents that are enough to tell conditions apart."""

from elseput.conditions import comparisons


def contents(fields, conditions):
    """Yield one content for each choice of one mark for each field."""
    compared = compared_numbers(conditions)
    yield from contents_at(fields, compared)


def least_content(fields, conditions):
    """The first content for which all conditions hold, or None."""
    for content in contents(fields, conditions):
        if all([condition(content) for condition in conditions]):
            return content
    return None


def parting_content(fields, first, second):
    """The first content for which exactly one of two conditions holds, or None."""
    for content in contents(fields, [first, second]):
        if first(content) != second(content):
            return content
    return None


def compared_numbers(conditions):
    """The pairs of a field and a number with which one of the conditions compares it."""
    return [(part[1], part[3]) for condition in conditions for part in comparisons(condition.tree)]


def contents_at(fields, compared):
    """Yield the contents for pairs of a field and a number with which it is compared."""
    names = tuple(fields)
    columns = [marks(name, compared) for name in names]
    for numbers in choices(columns):
        yield dict(zip(names, numbers))


def marks(field, compared):
    """The numbers that a field has in the contents, in ascending order."""
    numbers = [number for name, number in compared if name == field]
    if len(numbers) == 0:
        return [0]
    return sorted({number + step for number in numbers for step in (-1, 0, 1)})


def choices(columns):
    """Yield each choice of one item from each column; the last column changes fastest."""
    if len(columns) == 0:
        yield ()
        return
    later = columns[1:]
    for item in columns[0]:
        for rest in choices(later):
            yield (item, *rest)
