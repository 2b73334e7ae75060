"""The errors that the package raises."""


class RimError(ValueError):
    """The base class of all errors that the package raises."""


class RatioError(RimError):
    """A division by 0."""


class NetError(RimError):
    """A net that is not such as it has to be."""


class MoveError(RimError):
    """A move that does not fit the net."""


class TableError(RimError):
    """A table that is not such as it has to be."""


class TextError(RimError):
    """A text of a net with a line that cannot stand there."""

    def __init__(self, line, why="this line cannot stand here"):
        RimError.__init__(self, f"line {line}: {why}")
        self.line = line
