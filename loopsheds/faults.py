"""The errors of nests, runs, moves and books."""

from loopsheds.errors import LoopshedsError


class BadNest(LoopshedsError):
    """The parts do not make a nest."""


class NoNode(LoopshedsError):
    """A path leads to no node."""

    def __init__(self, path):
        self.path = path


class NoPlace(LoopshedsError):
    """There is no such statement, read, array or index."""


class BadSizes(LoopshedsError):
    """The sizes are not those of the nest, or not as given."""


class TooMany(LoopshedsError):
    """There are more steps than allowed."""

    def __init__(self, most):
        self.most = most


class Doubled(LoopshedsError):
    """Two runs have one name."""

    def __init__(self, label):
        self.label = label


class BadMove(LoopshedsError):
    """Something is no move."""


class NoMove(LoopshedsError):
    """A move cannot be done here."""

    def __init__(self, kind):
        self.kind = kind


class TooLarge(LoopshedsError):
    """The result of a move is too large for a nest."""


class BadKind(LoopshedsError):
    """There is no such kind of orders."""


class NoNest(LoopshedsError):
    """A book has no nest of this name."""

    def __init__(self, name):
        self.name = name


class Changed(LoopshedsError):
    """Moves change what a nest does."""

    def __init__(self, sizes):
        self.sizes = sizes


class NothingDone(LoopshedsError):
    """There is nothing to undo."""
