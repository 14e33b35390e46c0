"""The errors that the program raises."""


class MintError(ValueError):
    """The base class of all errors of the program."""


class BadText(MintError):
    """A text that cannot be read; `line` is the number of its first wrong line."""

    def __init__(self, line):
        super().__init__(f"line {line} is wrong")
        self.line = line


class BadSystem(MintError):
    """Not a system, a cost, or a width."""


class BadPlan(MintError):
    """A plan that is none, or whose parts are not all allowed."""


class NotPossible(MintError):
    """A history that cannot be carried out; `number` is that of the first impossible event."""

    def __init__(self, number):
        super().__init__(f"event {number} cannot be carried out")
        self.number = number


class BadLogs(MintError):
    """Logs that are not those of one history."""
