"""The refusals: one class for each kind."""


class QueenError(ValueError):
    """What every refusal of this package is."""


class BadSize(QueenError):
    """What was handed in as a size is none, or is too great where a limit is told."""


class BadPlace(QueenError):
    """What was handed in as a row or a column is none of that board."""


class BadSetting(QueenError):
    """What was handed in as a setting is none, or has too many rows."""


class NoSetting(QueenError):
    """No setting of this size is at peace."""


class NoPeace(QueenError):
    """A setting is not at peace where it has to be."""
