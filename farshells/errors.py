"""The refusals of the program, one class for each kind."""


class ShellError(ValueError):
    """Any refusal."""


class NoRatio(ShellError):
    """There is no such ratio: it would be something by nought."""


class NoGrid(ShellError):
    """What was handed in, or would be told, is no grid."""


class NoPlace(ShellError):
    """What was handed in is no place of the grid."""


class TooFar(ShellError):
    """The place is further away than is looked for, or no way leads there."""


class TooMany(ShellError):
    """The answer would be larger than the bounds allow."""


class NotTogether(ShellError):
    """The grid or the ribbon does not hang together."""


class NoText(ShellError):
    """What was handed in is not written as a grid, a place or a way is."""


class NoLine(ShellError):
    """What the desk was told is none of its rows."""


class NoBack(ShellError):
    """The desk has no deed left to take back."""
