"""Tallies: how many runs, rounds, cells and values there are, as Counts of the sizes."""

from loopsheds.counting import Count, count
from loopsheds.finals import axes_of, cells_at, check_array
from loopsheds.goings import goings
from loopsheds.halos import check_is_loop
from loopsheds.layouts import Layout
from loopsheds.nests import bounds_of, check_place, node_at, sizes_system, statements
from loopsheds.regions import region_of
from loopsheds.rewriting import nodes_around
from loopsheds.tables import table_of
from loopsheds.unions import simplified, united


def work(nest, place, /):
    """How many runs a statement has."""
    check_place(place, len(statements(nest)))
    layout = Layout(nest)
    return _counted(nest, layout.rows[place].counters, [layout.table_at(place)])


def all_work(nest, /):
    """How many runs there are."""
    found = Count(nest.sizes, [])
    for place in range(len(statements(nest))):
        found = found + work(nest, place)
    return found


def rounds(nest, path, /):
    """How many rounds a loop has in all its entries."""
    check_is_loop(nest, path)
    around = [*nodes_around(nest, path), node_at(nest, path)]
    counters = [node[1] for node in around if node[0] == "loop"]
    return _counted(nest, counters, [table_of([*bounds_of(around), *sizes_system(nest)])])


def cells(nest, array, /):
    """How many cells of an array the runs access."""
    check_array(nest, array)
    layout = Layout(nest)
    axes = axes_of(nest, array)
    found = []
    for place, row in enumerate(layout.rows):
        table = layout.table_at(place)
        for other, atoms in [row.target, *row.reads]:
            if other == array and table is not None:
                found.append(cells_at(table, row, axes, atoms))
    return _counted(nest, axes, simplified(found))


def traffic(nest, path, /):
    """How many reads have as their source a run in another round of the same entry of a loop."""
    check_is_loop(nest, path)
    layout = Layout(nest)
    tables = {}
    for going in goings(nest, layout, path):
        tables.setdefault((going.reader[0], going.at_read), []).extend(going.further(0))
    found = Count(nest.sizes, [])
    for place, read in tables:
        found = found + _counted(nest, layout.rows[place].counters, united(tables[(place, read)]))
    return found


def _counted(nest, names, tables):
    """How many values these names have in some tables, for all sizes."""
    region = region_of((*nest.sizes, *names), [table for table in tables if table is not None])
    return count(region, *names)
