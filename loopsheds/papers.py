"""Papers: what somebody tells of the source of a read."""

from loopsheds.doubling import check_single
from loopsheds.latest import FIRST
from loopsheds.layouts import Layout
from loopsheds.sources import check_read, source_cases, sources
from loopsheds.systems import copied, is_whole
from loopsheds.tables import limit_of, met, table_of
from loopsheds.unions import subtracted


class Paper:
    """Cases that are told of the source of a read, whoever has made them."""

    def __init__(self, cases):
        self.cases = copied(cases)

    def shows(self, nest, place, read):
        """Whether the cases tell the source at each point at which the statement is run."""
        check_read(nest, place, read)
        check_single(nest)
        layout = Layout(nest)
        points = layout.table_at(place)
        if points is None:
            return True
        told_cases = [(table_of(system), told) for system, told in self.cases]
        told_cases = [(table, told) for table, told in told_cases if table is not None]
        if subtracted([points], [table for table, _ in told_cases]):
            return False
        known = source_cases(layout, place, read)
        return all(_tells(layout, known, table, told) for table, told in told_cases)


def paper(nest, place, read):
    """The Paper of a read."""
    return Paper(sources(nest, place, read))


def _tells(layout, known, table, told):
    """Whether what is told of a table's points is so at all those at which the statement is run."""
    for part, right in known:
        both = met(part, table)
        if both is not None and not _is_told(layout, both, right, told):
            return False
    return True


def _is_told(layout, table, right, told):
    """Whether something tells the source that all points of a table have."""
    if not isinstance(told, tuple) or len(told) == 0 or not isinstance(told[0], str):
        return False
    if right == FIRST:
        return told == FIRST
    if len(told) != 3 or told[0] != "run" or not is_whole(told[1]) or told[1] != right[1]:
        return False
    atoms = told[2]
    if not isinstance(atoms, tuple) or len(atoms) != len(right[2]):
        return False
    return all(_is_equal(table, atom, other) for atom, other in zip(right[2], atoms))


def _is_equal(table, atom, other):
    """Whether something is an atom that has the value of this one at all points of a table."""
    if not isinstance(other, tuple) or len(other) != 2:
        return False
    name, shift = other
    if not isinstance(name, str) or not is_whole(shift):
        return False
    gap = shift - atom[1]
    return limit_of(table, atom[0], name) == gap and limit_of(table, name, atom[0]) == -gap
