"""Names, and the tokens of a line."""

from elseput.errors import BadText

LETTERS = "abcdefghijklmnopqrstuvwxyz"
DIGITS = "0123456789"
SIGNS = ("<", "<=", "==", "!=", ">=", ">")
MARKS = ("(", ")", ",", ";", ":")
LONGEST_NAME = 12
RESERVED = (
    "always", "never", "and", "or", "not", "when", "add", "set", "change", "tell", "refuse",
    "take", "look", "free", "lock", "keep", "keys", "fields",
)


def is_name(text):
    """Whether a string is a name."""
    if len(text) < 1 or len(text) > LONGEST_NAME or text in RESERVED:
        return False
    return all([letter in LETTERS for letter in text])


def tokens(line):
    """The tokens of a text that is one line, each with its column."""
    return split_line(line, 1)


def split_line(line, number):
    """The tokens of the line of this number, each with its column."""
    found = []
    at = 0
    while at < len(line):
        end = token_end(line, at)
        if end > at:
            found.append((line[at:end], at + 1))
            at = end
        elif line[at] == " ":
            at += 1
        else:
            raise BadText(number, at + 1)
    return found


def token_end(line, at):
    """Where the longest token that begins at this place ends, or the place itself if none does."""
    if line[at] in LETTERS:
        return run_end(line, at, LETTERS)
    if line[at] in DIGITS:
        return run_end(line, at, DIGITS)
    if line[at] == "-":
        end = run_end(line, at + 1, DIGITS)
        return end if end > at + 1 else at
    # The longer piece goes first, as some signs begin another sign.
    for piece in (line[at:at + 2], line[at]):
        if piece in SIGNS or piece in MARKS:
            return at + len(piece)
    return at


def run_end(line, at, characters):
    """Where the characters of this kind end that stand from this place on."""
    end = at
    while end < len(line) and line[end] in characters:
        end += 1
    return end
