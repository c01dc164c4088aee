"""The errors that the program raises."""


class ElseputError(ValueError):
    """The base class of all errors that the program raises."""


class BadName(ElseputError):
    """A string is not a name."""

    def __init__(self, name):
        super().__init__(f"not a name: {name!r}")
        self.name = name


class BadNumber(ElseputError):
    """A number is outside of its bounds."""

    def __init__(self, value):
        super().__init__(f"out of bounds: {value}")
        self.value = value


class BadSign(ElseputError):
    """A string is none of the six signs of a comparison."""

    def __init__(self, sign):
        super().__init__(f"not a sign: {sign!r}")
        self.sign = sign


class BadText(ElseputError):
    """A text does not have the form that is read."""

    def __init__(self, line, column):
        super().__init__(f"line {line}, column {column}")
        self.line = line
        self.column = column


class TooLarge(ElseputError):
    """Something would have more parts than it may have."""

    def __init__(self, most):
        super().__init__(f"more than {most}")
        self.most = most


class UnknownName(ElseputError):
    """The base class of the errors for a name that is not there."""

    def __init__(self, name):
        super().__init__(f"unknown: {name!r}")
        self.name = name


class UnknownKey(UnknownName):
    """There is no key of this name."""


class UnknownField(UnknownName):
    """There is no field of this name."""


class UnknownShape(UnknownName):
    """There is no shape of this name."""


class BadShape(ElseputError):
    """The arms, the condition and the change do not make a shape."""

    def __init__(self, name):
        super().__init__(f"not a shape: {name!r}")
        self.name = name


class BadBook(ElseputError):
    """The keys, the fields and the shapes do not make a book."""

    def __init__(self):
        super().__init__("not a book")


class BadRow(ElseputError):
    """The places and the content do not make a row."""

    def __init__(self):
        super().__init__("not a row")


class NoRow(ElseputError):
    """The table has no row of this number."""

    def __init__(self, row):
        super().__init__(f"no row {row}")
        self.row = row


class BadOrder(ElseputError):
    """The names do not make an order of keys."""

    def __init__(self):
        super().__init__("not an order of keys")


class BadPlan(ElseputError):
    """The steps do not make a plan, or the plan does not fit its shape."""

    def __init__(self):
        super().__init__("not a plan")


class BadTurn(ElseputError):
    """There is no writer of this number."""

    def __init__(self, writer):
        super().__init__(f"no writer {writer}")
        self.writer = writer


class Taken(ElseputError):
    """A row has the value under the key already."""

    def __init__(self, key, row):
        super().__init__(f"taken under {key!r} by row {row}")
        self.key = key
        self.row = row


class Refused(ElseputError):
    """A statement is refused at a key because of a row."""

    def __init__(self, key, row):
        super().__init__(f"refused at {key!r} because of row {row}")
        self.key = key
        self.row = row


class BatchRefused(ElseputError):
    """A statement of a batch raised an error."""

    def __init__(self, index):
        super().__init__(f"refused at statement {index}")
        self.index = index
