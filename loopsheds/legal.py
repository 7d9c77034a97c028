"""Times by which a nest may go."""

from loopsheds.agreeing import Pair
from loopsheds.atoms import in_order
from loopsheds.layouts import (Layout, ahead_of, all_sizes, atoms_of, marked, put_in_atom, shared_accesses, sizes_of,
                               with_bounds, with_equal, with_row)
from loopsheds.regions import region_of
from loopsheds.scanning import check_scan
from loopsheds.timed import Timed
from loopsheds.times import check_times
from loopsheds.unions import simplified


def where_legal(nest, times, /, *, counters):
    """The region of the sizes at which the nest scanned by times agrees with the nest.

    The scanned nest can be much larger than the nest, so the runs are compared as they go by the times.
    """
    check_scan(nest, times, counters)
    return Pair(nest, nest, Layout(nest), Timed(nest, times, counters)).where_alike()


def where_ordered(nest, times, /):
    """The region of the sizes at which all runs that access one cell, and one writes it, go as they do in the nest."""
    check_times(nest, times)
    layout = Layout(nest)
    found = []
    for place in range(len(layout.rows)):
        for other in range(len(layout.rows)):
            found.extend(sizes_of(_turned(layout, times, place, other), nest.sizes))
    return all_sizes(nest) - region_of(nest.sizes, simplified(found))


def _turned(layout, times, place, other):
    """The tables of a run of a statement ahead of one of another statement that go otherwise by the times."""
    row, other_row = layout.rows[place], layout.rows[other]
    names, other_names = marked(row, "<"), marked(other_row, ">")
    table = with_bounds(with_bounds({}, layout.systems[place], names), layout.systems[other], other_names)
    ones = [put_in_atom(atom, names) for atom in times[place]]
    others = [put_in_atom(atom, other_names) for atom in times[other]]
    found = []
    for atoms, other_atoms in shared_accesses(row, other_row):
        part = with_row(table, atoms, names, other_atoms, other_names)
        for early in ahead_of(part, (row, atoms_of(row, names)), (other_row, atoms_of(other_row, other_names))):
            found.extend(_not_later(early, others, ones, place < other))
    return found


def _not_later(table, atoms, others, is_last):
    """The tables of the points at which a time is earlier than another one, or, unless it is told, equal to it."""
    found = []
    rest = table
    for one, other in zip(atoms, others):
        found.append(in_order(rest, one, other, 1))
        rest = with_equal(rest, one, other)
    if not is_last:
        found.append(rest)
    return [part for part in found if part is not None]
