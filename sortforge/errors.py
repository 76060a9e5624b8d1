"""The refusals of the program."""


class ForgeError(ValueError):
    """Any refusal."""


class BadProgram(ForgeError):
    """What was handed in is no program that can be used here."""


class BadRow(ForgeError):
    """A row has fewer things than the program wants."""


class NoRule(ForgeError):
    """There is no rule of that name."""


class BadText(ForgeError):
    """A text is not that of a program."""
