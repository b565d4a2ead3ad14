"""The refusals: one base, and the others each straight under it."""


class RowError(ValueError):
    """The base of all refusals."""


class NoPlaces(RowError):
    """The places or numbers aren't any of the row's."""


class TooMany(RowError):
    """A size out of the bounds."""


class NoShelf(RowError):
    """What comes is no shelf."""


class NoNumber(RowError):
    """No row of the class has this number."""


class NoRow(RowError):
    """The row is barred."""


class NoChain(RowError):
    """A row of the one shelf isn't on the other one."""


class NoText(RowError):
    """The text writes none of what is to be read."""


class NoSaying(RowError):
    """The desk has no such saying."""


class NoName(RowError):
    """By this name nothing, or a thing of the other kind, stands."""


class NoDeed(RowError):
    """There is no deed to undo."""
