"""The errors of the package."""


class LayerError(Exception):
    """The base of all errors of the package."""


class BadValue(LayerError):
    """The argument at this place, counted from 1, is not as described."""

    def __init__(self, at):
        self.at = at


class BadLine(LayerError):
    """The line of this number, in the text of this number, does not have the form."""

    def __init__(self, layer, at):
        self.layer = layer
        self.at = at


class TooMany(LayerError):
    """There are more "layers", "lines", "readers" or "clashes" than may be."""

    def __init__(self, word):
        self.word = word


class BadSyntax(LayerError):
    """The line of this number of a log (0 for a command) has none of the forms."""

    def __init__(self, at):
        self.at = at
