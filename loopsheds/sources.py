"""The source of a read, for all sizes."""

from loopsheds.doubling import check_single
from loopsheds.latest import last_writers, view_of
from loopsheds.layouts import Layout
from loopsheds.nests import check_place, statements
from loopsheds.tables import fewest_of


def sources(nest, place, read):
    """The cases of the source of a read: pairs of a system and what is told."""
    check_read(nest, place, read)
    check_single(nest)
    return [(fewest_of(table), told) for table, told in source_cases(Layout(nest), place, read)]


def check_read(nest, place, read):
    """Refuse what is no place of a nest, or no read of its statement."""
    rows = statements(nest)
    check_place(place, len(rows))
    check_place(read, len(rows[place].reads))


def source_cases(layout, place, read):
    """The cases of the source of a read: pairs of a table within the bounds and what is told."""
    array, atoms = layout.rows[place].reads[read]
    return last_writers(layout, view_of(layout, place), array, atoms)
