"""Nests in which two runs have one name."""

from loopsheds.faults import Doubled
from loopsheds.layouts import Layout, marked, sizes_of, with_bounds, with_row
from loopsheds.regions import region_of
from loopsheds.tables import tightened
from loopsheds.unions import simplified, subtracted


def where_single(nest):
    """The region of the sizes at which no two runs of a nest have one name."""
    layout = Layout(nest)
    if layout.base is None:
        return region_of(nest.sizes, [])
    found = []
    for place in range(len(layout.rows)):
        for other in range(place, len(layout.rows)):
            found.extend(_doubles(layout, place, other))
    return region_of(nest.sizes, simplified(subtracted([layout.base], sizes_of(found, nest.sizes))))


def check_single(nest):
    """Refuse a nest that is doubled at some sizes."""
    layout = Layout(nest)
    for place, row in enumerate(layout.rows):
        for other in range(place, len(layout.rows)):
            if _doubles(layout, place, other):
                raise Doubled(row.label)


def _doubles(layout, place, other):
    """Tables of all runs of two statements that have one name; of one statement, only two different runs."""
    row, other_row = layout.rows[place], layout.rows[other]
    if row.label != other_row.label:
        return []
    if place == other:
        return twins(layout, place, row.stamp)
    names, other_names = marked(row, "<"), marked(other_row, ">")
    table = with_row({}, row.stamp, names, other_row.stamp, other_names)
    table = with_bounds(with_bounds(table, layout.systems[place], names), layout.systems[other], other_names)
    return [] if table is None else [table]


def twins(layout, place, atoms):
    """Tables of all two different runs of a statement that have the same values of these atoms."""
    row = layout.rows[place]
    names, other_names = marked(row, "<"), marked(row, ">")
    table = with_row({}, atoms, names, atoms, other_names)
    table = with_bounds(with_bounds(table, layout.systems[place], names), layout.systems[place], other_names)
    if table is None:
        return []
    parts = [tightened(table, names[counter], other_names[counter], -1) for counter in row.counters]
    return [part for part in parts if part is not None]
