"""Rooms: whether all accesses stay inside them."""

from loopsheds.atoms import in_order
from loopsheds.layouts import Layout, all_sizes, sizes_of
from loopsheds.regions import region_of
from loopsheds.tables import pinned
from loopsheds.unions import simplified
from loopsheds.witnesses import least_point, least_sizes, sizes_at


class Leaving:
    """A run at some sizes that leaves the room of an array: with which access, at which index."""

    def __init__(self, sizes, place, counters, access, index):
        self.sizes = dict(sizes)
        self.place = place
        self.counters = counters
        self.access = access
        self.index = index


class Outing:
    """A table of the runs of a statement that leave a room with an access at an index."""

    def __init__(self, table, place, access, index):
        self.table = table
        self.place = place
        self.access = access
        self.index = index


def where_inside(nest, /):
    """The region of the sizes at which every access stays inside the room of its array."""
    tables = [outing.table for outing in _outings(nest, Layout(nest))]
    return all_sizes(nest) - region_of(nest.sizes, simplified(sizes_of(tables, nest.sizes)))


def leaving(nest, /):
    """The Leaving at the least sizes at which an access leaves its room, or None."""
    layout = Layout(nest)
    outings = _outings(nest, layout)
    sizes = least_sizes(sizes_of([outing.table for outing in outings], nest.sizes), nest.sizes)
    for outing in outings:
        table = _at_sizes(outing.table, sizes)
        if table is not None:
            counters = layout.rows[outing.place].counters
            point = least_point(table, [*nest.sizes, *counters])
            values = tuple([point[counter] for counter in counters])
            return Leaving(sizes_at(point, nest.sizes), outing.place, values, outing.access, outing.index)
    return None


def _at_sizes(table, sizes):
    """The table at these sizes, or None."""
    found = table
    for size, value in sizes.items():
        if found is not None:
            found = pinned(found, size, value)
    return found


def _outings(nest, layout):
    """All Outings of a nest."""
    rooms = nest.rooms
    found = []
    for place, row in enumerate(layout.rows):
        table = layout.table_at(place)
        for access, (array, atoms) in enumerate([row.target, *row.reads]):
            for index, (atom, (low, high)) in enumerate(zip(atoms, rooms.get(array, ()))):
                tables = [in_order(table, atom, low, 1), in_order(table, high, atom, 1)]
                found.extend([Outing(part, place, access, index) for part in tables if part is not None])
    return found
