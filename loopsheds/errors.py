"""The errors of differences, regions, formulas, counts and times."""


class LoopshedsError(ValueError):
    """What every error of this package is."""


class BadName(LoopshedsError):
    """Something is no name here, or stands twice, or is missing."""

    def __init__(self, name):
        self.name = name


class BadDifference(LoopshedsError):
    """An entry of a system is no difference."""

    def __init__(self, place):
        self.place = place


class NoSolution(LoopshedsError):
    """A system has no solution, or a region no point."""


class Unlike(LoopshedsError):
    """Two things do not fit together."""

    def __init__(self, what):
        self.what = what


class Unbounded(LoopshedsError):
    """There is no least value, or there are points without end."""

    def __init__(self, name):
        self.name = name


class BadText(LoopshedsError):
    """A text is not of the form that is asked for."""

    def __init__(self, line, column):
        self.line = line
        self.column = column


class BadFormula(LoopshedsError):
    """A formula is not of the kind that is asked for."""

    def __init__(self, why):
        self.why = why


class BadTimes(LoopshedsError):
    """Times do not fit a nest."""

    def __init__(self, place):
        self.place = place


class Descending(LoopshedsError):
    """A loop goes down where all have to go up."""

    def __init__(self, path):
        self.path = path


class NoLoop(LoopshedsError):
    """A node is no loop."""

    def __init__(self, path):
        self.path = path


class BadNumber(LoopshedsError):
    """A number is none of those that are asked for."""

    def __init__(self, value):
        self.value = value


class BadShifts(LoopshedsError):
    """Shifts are not as they are asked for."""
