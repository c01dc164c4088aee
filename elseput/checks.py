"""The checks of names and numbers that are given."""

from elseput.errors import BadName, BadNumber
from elseput.words import is_name

BOUND = 10 ** 30
MOST_TIMES = 1000


def in_bound(value):
    """Whether a number is one that may be given."""
    return -BOUND <= value <= BOUND


def check_name(text):
    """Raise BadName if a string is not a name."""
    if not is_name(text):
        raise BadName(text)


def check_number(value):
    """Raise BadNumber if a number may not be given."""
    if not in_bound(value):
        raise BadNumber(value)


def check_times(times):
    """Raise BadNumber if nothing can be repeated so many times."""
    if times < 0 or times > MOST_TIMES:
        raise BadNumber(times)
