"""Statements as they go by times: the times are their counters."""

from loopsheds.layouts import Layout, marked, put_in_atom, valued, with_equal
from loopsheds.nests import Statement
from loopsheds.tables import fewest_of, limit_of, table_of, with_names, without


class Timed:
    """What a Layout tells, for the runs of a nest in the order of times: all statements stand in the same loops.

    The loops count the times, and statements that are never run are left out.
    """

    def __init__(self, nest, times, counters):
        layout = Layout(nest)
        around = [("loop", counter, (), (), False, ()) for counter in counters]
        rows = []
        systems = []
        for place, row in enumerate(layout.rows):
            table = layout.table_at(place)
            if table is not None:
                path = (*[0 for _ in counters], place)
                rows.append(Statement(node_by_times(row, table, counters, times[place]), path, around))
                systems.append(fewest_of(table_by_times(row, table, counters, times[place])))
        self.rows = rows
        self.systems = systems
        self.sizes = nest.sizes
        self.base = layout.base
        self.end = (1,)

    def table_at(self, place):
        """The closed table of a statement's bounds."""
        return table_of(self.systems[place])


def table_by_times(row, table, counters, atoms):
    """The table of some runs of a statement over counters that have the times as values."""
    return without(_with_times(row, table, counters, atoms), list(marked(row, "<").values()))


def node_by_times(row, table, counters, atoms):
    """The node of a statement that has some runs, with atoms of counters of its times in the place of its own counters.

    As the times tell the runs apart, each of its own counters is always equal to such an atom.
    """
    timed = _with_times(row, table, counters, atoms)
    own = marked(row, "<")
    gone = [*counters, *list(own.values())]
    sides = [*counters, *[side for side in timed if side not in gone]]
    values = {counter: _equal_atom(timed, own[counter], sides) for counter in row.counters}
    accesses = [(array, _with_values(indexes, values)) for array, indexes in (row.target, *row.reads)]
    return ("run", row.label, _with_values(row.stamp, values), accesses[0], tuple(accesses[1:]))


def _with_times(row, table, counters, atoms):
    """The table with marks for the counters of a statement, and with counters that have the times as values."""
    names = marked(row, "<")
    found = with_names(table, {name: names.get(name, name) for name in table})
    for counter, atom in zip(counters, atoms):
        found = with_equal(found, (counter, 0), put_in_atom(atom, names))
    return found


def _equal_atom(table, name, sides):
    """The atom with one of the sides that is always equal to a name, or None."""
    for side in sides:
        most = limit_of(table, name, side)
        if most is not None and limit_of(table, side, name) == -most:
            return (side, most)
    return None


def _with_values(atoms, values):
    return tuple([valued(atom, values) for atom in atoms])
