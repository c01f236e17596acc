"""What is refused, and what there is not.

An error keeps just what it is made of. It makes no message of that, as it may be made of anything.
"""


class ResultError(ValueError):
    """What is refused."""


class BadRule(ResultError):
    """No RULE: the number of the first thing that is no weight, or None."""

    def __init__(self, number):
        self.number = number


class BadRow(ResultError):
    """No ROW, or none that will do: the number of the first RESULT at fault, or None."""

    def __init__(self, number):
        self.number = number


class BadBill(ResultError):
    """No BILL: "form", "own", "terms", or the number of the first TERM that is none."""

    def __init__(self, part):
        self.part = part


class BadNumber(ResultError):
    """No such number: the value that was passed for it."""

    def __init__(self, value):
        self.value = value


class BadKind(ResultError):
    """No kind: the value that was passed for it."""

    def __init__(self, value):
        self.value = value


class BadPaper(ResultError):
    """No paper of a BILL: the part that is at fault."""

    def __init__(self, part):
        self.part = part


class BadText(ResultError):
    """No such text: the number of the first row at fault, from 1, or 0 of what is no string."""

    def __init__(self, line):
        self.line = line


class Nothing(LookupError):
    """There is not what was asked for: the value that it was asked by."""

    def __init__(self, value):
        self.value = value
