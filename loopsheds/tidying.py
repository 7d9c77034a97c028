"""Nests scanned in their own order, without rounds that do nothing, and without some of their runs."""

from loopsheds.errors import BadName
from loopsheds.finals import used_runs
from loopsheds.layouts import Layout
from loopsheds.scanning import all_runs, scanned_body
from loopsheds.tables import table_of
from loopsheds.times import check_ascending, order_times
from loopsheds.trimming import with_trimmed
from loopsheds.unions import subtracted


def tidy(nest, /):
    """The nest without empty rounds, trimmed."""
    return _scanned_in_order(nest, all_runs(Layout(nest)))


def left_out(nest, regions, /):
    """The tidy nest that does not make the runs in some regions."""
    layout = Layout(nest)
    check_ascending(layout.rows)
    for place in sorted(regions):
        for name in regions[place].names:
            if name not in layout.rows[place].counters and name not in nest.sizes:
                raise BadName(name)
    parts = all_runs(layout)
    for place, region in regions.items():
        gone = [table_of(system) for system in region.pieces]
        parts[place] = subtracted(parts[place], gone)
    return _scanned_in_order(nest, parts)


def without_unread(nest, /):
    """The tidy nest without the runs that no read has as its source and no kept cell ends with."""
    layout = Layout(nest)
    return _scanned_in_order(nest, [used_runs(nest, layout, place) for place in range(len(layout.rows))])


def _scanned_in_order(nest, parts):
    """The trimmed nest that makes the runs in some tables in the order of the nest."""
    times = order_times(nest)
    many = len(times[0]) if times else 0
    names = [f"t{at}" for at in range(many + len(nest.sizes))]
    counters = [name for name in names if name not in nest.sizes][:many]
    return with_trimmed(nest, scanned_body(nest, times, counters, parts))
