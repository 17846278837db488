"""What is raised where something is refused."""


class LeaveError(ValueError):
    """Any refusal."""


class NoText(LeaveError):
    """What was to be read isn't written as it must be."""


class NoRow(LeaveError):
    """A desk was told what is no row."""


class Refused(LeaveError):
    """An entry isn't right at its stand; the word says why."""

    def __init__(self, word):
        self.word = word
