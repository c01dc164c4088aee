"""Contents that are enough to tell conditions apart."""

from elseput.conditions import NEVER, comparisons, settled


def contents(fields, conditions):
    """Yield one content for each choice of one mark for each field."""
    compared = compared_numbers(conditions)
    yield from contents_at(fields, compared)


def least_content(fields, conditions):
    """The first content for which all conditions hold, or None."""
    names = tuple(fields)
    numbers = least_numbers(names, compared_numbers(conditions), [condition.tree for condition in conditions])
    return None if numbers is None else dict(zip(names, numbers))


def parting_content(fields, first, second):
    """The first content for which exactly one of two conditions holds, or None."""
    for content in contents(fields, [first, second]):
        if first(content) != second(content):
            return content
    return None


def least_numbers(names, compared, trees):
    """The first choice of one mark for each of these fields for which all trees hold, or None."""
    if len(names) == 0:
        return ()
    tried = []
    for number in marks(names[0], compared):
        asked = [settled(tree, names[0], number) for tree in trees]
        # Marks that leave the same things to ask of the later fields have the same end, so one of them is enough.
        if NEVER not in asked and asked not in tried:
            tried.append(asked)
            later = least_numbers(names[1:], compared, asked)
            if later is not None:
                return (number, *later)
    return None


def compared_numbers(conditions):
    """The pairs of a field and a number with which one of the conditions compares it."""
    return [(part[1], part[3]) for condition in conditions for part in comparisons(condition.tree)]


def contents_at(fields, compared):
    """Yield the contents for pairs of a field and a number with which it is compared."""
    names = tuple(fields)
    columns = [marks(name, compared) for name in names]
    for numbers in choices(columns):
        yield dict(zip(names, numbers))


def marks(field, compared):
    """The numbers that a field has in the contents, in ascending order."""
    numbers = [number for name, number in compared if name == field]
    if len(numbers) == 0:
        return [0]
    return sorted({number + step for number in numbers for step in (-1, 0, 1)})


def choices(columns):
    """Yield each choice of one item from each column; the last column changes fastest."""
    if len(columns) == 0:
        yield ()
        return
    later = columns[1:]
    for item in columns[0]:
        for rest in choices(later):
            yield (item, *rest)
