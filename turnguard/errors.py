"""The refusals."""


class GuardError(ValueError):
    """Any refusal."""


class NoProgram(GuardError):
    """A text that writes no program; row is the number of the first row that can't stand there."""

    def __init__(self, row):
        GuardError.__init__(self, f"the text writes no program: row {row} can't stand there, or lacks")
        self.row = row


class Late(GuardError):
    """Code whose delay is greater than asked; delay is that delay, or None where it has none."""

    def __init__(self, delay):
        GuardError.__init__(self, f"the code's delay is {delay}, later than asked")
        self.delay = delay
