"""Statements at all sizes at once: their bounds over names of one's own choice, and what their runs share."""

from loopsheds.atoms import in_order
from loopsheds.nests import all_bounds, sizes_system, statements
from loopsheds.regions import region_of
from loopsheds.tables import table_of, tightened, without
from loopsheds.unions import absorbed


class Layout:
    """The statements of a nest with their bounds, found once for a question."""

    def __init__(self, nest):
        self.rows = statements(nest)
        self.systems = all_bounds(nest)
        self.sizes = nest.sizes
        self.base = table_of(sizes_system(nest))
        self.end = (len(nest.body),)

    def table_at(self, place):
        """The closed table of a statement's bounds, or None."""
        return table_of(self.systems[place])


def all_sizes(nest):
    """The region of the sizes that keep what is given."""
    base = Layout(nest).base
    return region_of(nest.sizes, [] if base is None else [base])


def sizes_of(tables, sizes):
    """The tables of the sizes that the points of some tables have."""
    found = []
    for table in tables:
        gone = [name for name in table if name != "0" and name not in sizes]
        found.append(without(table, gone))
    return absorbed(found)


def marked(row, mark):
    """For each counter of a statement a name that no nest has, by its depth and a mark."""
    return {counter: f"{mark}{depth}" for depth, counter in enumerate(row.counters)}


def put_in_atom(atom, names):
    """The atom with other names for some names."""
    return (names.get(atom[0], atom[0]), atom[1])


def valued(atom, values):
    """The atom with an atom in the place of its name, if there is one for it."""
    name, shift = values.get(atom[0], (atom[0], 0))
    return (name, shift + atom[1])


def with_bounds(table, system, names):
    """The table with the differences of a system, with other names for some names, or None."""
    found = table
    for left, right, limit in system:
        if found is None:
            return None
        found = tightened(found, names.get(left, left), names.get(right, right), limit)
    return found


def with_equal(table, one, other):
    """The table where two atoms are equal, or None."""
    if table is None:
        return None
    limit = other[1] - one[1]
    if one[0] == other[0]:
        return table if limit == 0 else None
    found = tightened(table, one[0], other[0], limit)
    if found is None:
        return None
    return tightened(found, other[0], one[0], -limit)


def with_row(table, atoms, names, others, other_names):
    """The table where two rows of atoms are equal, each with names of its own, or None."""
    found = table
    for one, other in zip(atoms, others):
        found = with_equal(found, put_in_atom(one, names), put_in_atom(other, other_names))
    return found


def shared_length(path, other):
    """How many positions two paths have in common at their beginnings."""
    same = 0
    while same < min(len(path), len(other)) and path[same] == other[same]:
        same = same + 1
    return same


def shared_loops(row, other):
    """How many loops stand around both statements."""
    same = shared_length(row.path, other.path)
    return len([level for level in row.levels if level <= same])


def ahead_of(table, one, other):
    """The tables of the points at which the first of two runs goes ahead of the second one.

    A run is a pair of its statement and the atoms that are the values of its counters. A run is not ahead of itself.
    """
    row, atoms = one
    other_row, other_atoms = other
    found = []
    rest = table
    for at in range(shared_loops(row, other_row)):
        early, late = (other_atoms[at], atoms[at]) if row.loops[at][3] else (atoms[at], other_atoms[at])
        found.append(in_order(rest, early, late, 1))
        rest = with_equal(rest, early, late)
    if row.path < other_row.path:
        found.append(rest)
    return [part for part in found if part is not None]


def atoms_of(row, names):
    """The counters of a statement as atoms, with other names for some names."""
    return tuple([put_in_atom((counter, 0), names) for counter in row.counters])


def shared_accesses(row, other_row):
    """The indexes of each two accesses of two statements to one array, one of them a target."""
    found = []
    for at, (array, atoms) in enumerate([row.target, *row.reads]):
        for other, (other_array, other_atoms) in enumerate([other_row.target, *other_row.reads]):
            if array == other_array and 0 in (at, other):
                found.append((atoms, other_atoms))
    return found
