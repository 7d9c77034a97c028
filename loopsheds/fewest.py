"""The fewest differences that have the solutions of a system."""

from loopsheds.errors import NoSolution
from loopsheds.systems import read_system
from loopsheds.tables import fewest_of, table_of


def fewest(system, /):
    """As few differences as can be with exactly the solutions of a system."""
    table = table_of(read_system(system))
    if table is None:
        raise NoSolution("the system has no solution")
    return fewest_of(table)
