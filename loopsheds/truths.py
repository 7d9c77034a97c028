"""The truth of formulas, for all integers."""

from loopsheds.deciding import tables_where
from loopsheds.errors import BadFormula, BadName
from loopsheds.formulas import free_names
from loopsheds.regions import region_of
from loopsheds.systems import read_names


def truth(formula, names=None, /):
    """The region of the points at which a formula holds."""
    free = free_names(formula)
    if names is None:
        return region_of(free, tables_where(formula, True))
    wide = read_names(names)
    for name in free:
        if name not in wide:
            raise BadName(name)
    return region_of(wide, tables_where(formula, True))


def holds_always(formula, /):
    """Whether a formula holds for all values of its free names."""
    return not tables_where(formula, False)


def decided(formula, /):
    """Whether a formula without free names is true."""
    if free_names(formula):
        raise BadFormula("open")
    return bool(tables_where(formula, True))
