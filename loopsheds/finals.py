"""Ends of cells, needs of first contents, runs that nobody reads, and carried distances."""

from loopsheds.doubling import check_single
from loopsheds.faults import NoPlace
from loopsheds.latest import FIRST, last_writers, view_behind
from loopsheds.layouts import Layout, with_equal
from loopsheds.nests import check_place, statements
from loopsheds.regions import region_of
from loopsheds.sources import check_read, source_cases
from loopsheds.tables import fewest_of, with_names, without
from loopsheds.unions import simplified, subtracted


def finals(nest, array):
    """The axes of an array, and the cases of the last run that writes a cell of it."""
    check_array(nest, array)
    check_single(nest)
    cases = final_cases(nest, Layout(nest), array)
    return axes_of(nest, array), [(fewest_of(table), told) for table, told in cases]


def check_array(nest, array):
    """Refuse what is no array of a nest."""
    if not isinstance(array, str) or array not in nest.arrays:
        raise NoPlace("there is no such array")


def axes_of(nest, array):
    """The names of the axes of an array."""
    return tuple([str(at + 1) for at in range(nest.arrays[array])])


def final_cases(nest, layout, array):
    """The cases of the last run that writes a cell: pairs of a table and what is told."""
    atoms = [(axis, 0) for axis in axes_of(nest, array)]
    return last_writers(layout, view_behind(layout), array, atoms)


def needs(nest, array):
    """The region of the cells of an array whose first content is read."""
    check_array(nest, array)
    check_single(nest)
    layout = Layout(nest)
    axes = axes_of(nest, array)
    found = []
    for place, row in enumerate(layout.rows):
        for read, access in enumerate(row.reads):
            if access[0] == array:
                found.extend(_cells_of(source_cases(layout, place, read), row, axes, access[1]))
    return region_of((*axes, *nest.sizes), simplified(found))


def _cells_of(cases, row, axes, atoms):
    """The tables of the cells that are read where the source is their first content."""
    return [cells_at(table, row, axes, atoms) for table, told in cases if told == FIRST]


def cells_at(table, row, axes, atoms):
    """The table of the cells with these numbers that some runs of a statement have."""
    found = table
    for axis, atom in zip(axes, atoms):
        found = with_equal(found, (axis, 0), atom)
    return without(found, row.counters)


def unread(nest, place):
    """The region of the runs of a statement that no read has as its source, and that no kept cell ends with."""
    check_place(place, len(statements(nest)))
    check_single(nest)
    layout = Layout(nest)
    row = layout.rows[place]
    table = layout.table_at(place)
    used = [] if table is None else used_runs(nest, layout, place)
    rest = [] if table is None else subtracted([table], used)
    return region_of((*row.counters, *nest.sizes), simplified(rest))


def used_runs(nest, layout, place):
    """The tables of the runs of a statement that are the source of a read or the end of a kept cell."""
    array = layout.rows[place].target[0]
    found = []
    for other, row in enumerate(layout.rows):
        for read, access in enumerate(row.reads):
            if access[0] == array:
                found.extend(_runs_told(layout, source_cases(layout, other, read), place))
    if array in nest.kept:
        found.extend(_runs_told(layout, final_cases(nest, layout, array), place))
    return simplified(found)


def _runs_told(layout, cases, place):
    """The tables of the runs of a statement that are told in the cases."""
    counters = layout.rows[place].counters
    names = {f"*{depth}": counter for depth, counter in enumerate(counters)}
    for size in ("0", *layout.sizes):
        names[size] = size
    found = []
    for table, told in cases:
        if told != FIRST and told[1] == place:
            writers = table
            for depth, atom in enumerate(told[2]):
                writers = with_equal(writers, (f"*{depth}", 0), atom)
            gone = [name for name in writers if name not in names]
            found.append(with_names(without(writers, gone), names))
    return found


def carried(nest, place, read):
    """For each loop around a statement, the stretches of how far values of a read come within it."""
    check_read(nest, place, read)
    check_single(nest)
    layout = Layout(nest)
    row = layout.rows[place]
    names = (*row.counters, *nest.sizes, "*")
    cases = [(table, told) for table, told in source_cases(layout, place, read) if told != FIRST]
    found = []
    for depth, level in enumerate(row.levels):
        inside = [with_equal(table, ("*", 0), told[2][depth]) for table, told in cases
                  if layout.rows[told[1]].path[:level] == row.path[:level]]
        found.append(region_of(names, inside).spread(row.counters[depth], "*"))
    return found
