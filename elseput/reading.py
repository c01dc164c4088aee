"""Going through the tokens of one line."""

from elseput.checks import in_bound
from elseput.errors import BadText
from elseput.words import DIGITS, is_name, split_line

# Ten to the power of 30 with a sign in front of it.
LONGEST_INTEGER = 32


def is_integer(token):
    """Whether a token is an integer that fits."""
    # The length is tested first, as Python refuses to convert thousands of digits.
    if token == "" or token[-1] not in DIGITS or len(token) > LONGEST_INTEGER:
        return False
    # A leading zero, or the sign of -0, is lost on the way to the number and back.
    return str(int(token)) == token and in_bound(int(token))


class Reader:
    """The tokens of one line, taken from left to right.

    A token that does not fit is the place of a BadText; behind the last token the end of the line is.
    """

    def __init__(self, line, number=1):
        self._parts = split_line(line, number)
        self._number = number
        self._end = len(line) + 1
        self._at = 0

    def at_end(self):
        """Whether no token is left."""
        return self._at == len(self._parts)

    def ahead(self):
        """The next token, or the empty string if none is left."""
        return "" if self.at_end() else self._parts[self._at][0]

    def skip(self, token):
        """Go behind the next token if it is this one, and tell whether it was."""
        if self.ahead() != token:
            return False
        self._at += 1
        return True

    def take_name(self):
        """Take a name."""
        return self._take_if(is_name(self.ahead()))

    def take_integer(self):
        """Take an integer, and return its number."""
        return int(self._take_if(is_integer(self.ahead())))

    def take_natural(self):
        """Take an integer that is not negative, and return its number."""
        token = self.ahead()
        return int(self._take_if(is_integer(token) and token[0] != "-"))

    def take_one(self, words):
        """Take one of some tokens."""
        return self._take_if(self.ahead() in words)

    def take_end(self):
        """See to it that no token is left."""
        if not self.at_end():
            self._refuse()

    def _take_if(self, fits):
        if not fits:
            self._refuse()
        token = self.ahead()
        self._at += 1
        return token

    def _refuse(self):
        column = self._end if self.at_end() else self._parts[self._at][1]
        raise BadText(self._number, column)
