"""Nests that make the runs of another one in the order of times."""

from loopsheds.doubling import twins
from loopsheds.errors import BadName
from loopsheds.faults import Doubled
from loopsheds.layouts import Layout, with_bounds
from loopsheds.needed import follows, needed
from loopsheds.nests import Nest, bounds_of
from loopsheds.parts import MOST_ROW, is_nest_name
from loopsheds.separating import ordered, separated
from loopsheds.sums import cases_of
from loopsheds.tables import fewest_of, met, table_of, without
from loopsheds.timed import node_by_times, table_by_times
from loopsheds.times import check_times
from loopsheds.unions import both_of, parted, simplified


class Item:
    """Some runs of a statement: a table over times and sizes."""

    def __init__(self, place, table):
        self.place = place
        self.table = table


class Scan:
    """The nodes of the statements by their places, and the names of the counters that count the times."""

    def __init__(self, nodes, counters):
        self.nodes = nodes
        self.counters = counters

    def body_at(self, depth, context, those):
        """The body, with loops from a depth on, that makes the runs of some items where a table holds."""
        if depth == len(self.counters):
            return self.runs_at(context, those)
        found = []
        counter = self.counters[depth]
        later = self.counters[depth + 1:]
        shadows = [without(item.table, later) for item in those]
        for piece in ordered(separated(shadows), counter):
            for case, low, high in cases_of(piece.table, counter):
                inner = met(piece.table, case)
                if follows(inner, (high[0], low[0], low[1] - high[1])):
                    high = low
                body = self.body_at(depth + 1, inner, _within(inner, [those[part] for part in piece.parts]))
                loop = ("loop", counter, (low,), (high,), False, body)
                found.extend(_guarded(with_bounds(context, bounds_of([loop]), {}), case, (loop,)))
        return tuple(found)

    def runs_at(self, context, those):
        """The runs of some items at one time, each once; a statement's items may overlap."""
        found = []
        for place in sorted(set([item.place for item in those])):
            tables = [item.table for item in those if item.place == place]
            for table in parted(simplified(tables)):
                found.extend(_guarded(context, table, (self.nodes[place],)))
        return tuple(found)


def scan(nest, times, /, *, counters, regions=None):
    """The nest that makes the runs of a nest in the order of times."""
    check_scan(nest, times, counters)
    parts = all_runs(Layout(nest))
    if regions is not None:
        wanted = [[table_of(system) for system in region.pieces] for region in regions]
        parts = [both_of(tables, others) for tables, others in zip(parts, wanted)]
    return Nest(nest.sizes, nest.given, nest.rooms, nest.kept, scanned_body(nest, times, counters, parts))


def check_scan(nest, times, counters):
    """Refuse times that do not fit a nest or do not tell its runs apart, and counters that do not fit them."""
    check_times(nest, times)
    for at, name in enumerate(counters):
        if not is_nest_name(name) or name in nest.sizes or name in counters[:at]:
            raise BadName(name)
    if len(times) > 0 and len(counters) != len(times[0]):
        raise BadName(None)
    layout = Layout(nest)
    for place, row in enumerate(layout.rows):
        if twins(layout, place, times[place]):
            raise Doubled(row.label)


def all_runs(layout):
    """For each statement the tables of its runs."""
    tables = [layout.table_at(place) for place in range(len(layout.rows))]
    return [[] if table is None else [table] for table in tables]


def scanned_body(nest, times, counters, parts):
    """The body that makes, for each statement, the runs in some tables, in the order of times."""
    layout = Layout(nest)
    nodes = {}
    found = []
    for place, row in enumerate(layout.rows):
        for table in simplified(parts[place]):
            found.append(Item(place, table_by_times(row, table, counters, times[place])))
        for table in all_runs(layout)[place]:
            nodes[place] = node_by_times(row, table, counters, times[place])
    return Scan(nodes, list(counters)).body_at(0, layout.base, found)


def _within(table, those):
    """What is left of some items where a table holds."""
    found = []
    for item in those:
        part = met(item.table, table)
        if part is not None:
            found.append(Item(item.place, part))
    return found


def _guarded(known, case, nodes):
    """The nodes, in a test if the case says more than is known; a loop's own bounds need not be tested."""
    differences = needed(known, fewest_of(case))
    found = nodes
    for at in range(0, len(differences), MOST_ROW):
        found = (("test", tuple(differences[at:at + MOST_ROW]), found),)
    return found
