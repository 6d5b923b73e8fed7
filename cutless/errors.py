"""The refusals of the program: one base, and each refusal straight under it."""


class CutlessError(ValueError):
    """Any refusal."""


class NoProof(CutlessError):
    """The tree does not fit the row."""


class NoCut(CutlessError):
    """The derivation has no cut at which a step could be taken."""


class NotCleared(CutlessError):
    """The derivation still has a cut."""


class NotPlain(CutlessError):
    """The row has an all or some."""


class TooGreat(CutlessError):
    """What is asked goes beyond the size that is allowed."""


class NoText(CutlessError):
    """The text is none of what it should tell."""


class NoName(CutlessError):
    """The name is none, or nothing is kept by it."""


class NoRow(CutlessError):
    """The row told to a desk is none that it knows."""
