"""Nests that make the runs of another one in the order of times."""

from loopsheds.doubling import twins
from loopsheds.errors import BadName
from loopsheds.faults import Doubled
from loopsheds.layouts import Layout, marked, put_in_atom, valued, with_bounds, with_equal
from loopsheds.needed import follows, needed
from loopsheds.nests import Nest, bounds_of
from loopsheds.parts import MOST_ROW, is_nest_name
from loopsheds.separating import ordered, separated
from loopsheds.sums import cases_of
from loopsheds.tables import fewest_of, limit_of, met, table_of, with_names, without
from loopsheds.times import check_times
from loopsheds.unions import both_of, parted, united


class Item:
    """Some runs of a statement: a table over times and sizes."""

    def __init__(self, place, table):
        self.place = place
        self.table = table


class Scan:
    """The nodes of the statements by their places, and the names of the counters that count the times."""

    def __init__(self, nodes, counters):
        self.nodes = nodes
        self.counters = counters

    def body_at(self, depth, context, those):
        """The body, with loops from a depth on, that makes the runs of some items where a table holds."""
        found = []
        if depth == len(self.counters):
            for item in sorted(those, key=_place_of):
                found.extend(_guarded(context, item.table, (self.nodes[item.place],)))
            return tuple(found)
        counter = self.counters[depth]
        later = self.counters[depth + 1:]
        shadows = [without(item.table, later) for item in those]
        for piece in ordered(separated(shadows), counter):
            for case, low, high in cases_of(piece.table, counter):
                inner = met(piece.table, case)
                if follows(inner, (high[0], low[0], low[1] - high[1])):
                    high = low
                body = self.body_at(depth + 1, inner, _within(inner, [those[part] for part in piece.parts]))
                loop = ("loop", counter, (low,), (high,), False, body)
                found.extend(_guarded(with_bounds(context, bounds_of([loop]), {}), case, (loop,)))
        return tuple(found)


def scan(nest, times, /, *, counters, regions=None):
    """The nest that makes the runs of a nest in the order of times."""
    check_times(nest, times)
    _check_counters(nest, times, counters)
    layout = Layout(nest)
    for place, row in enumerate(layout.rows):
        if twins(layout, place, times[place]):
            raise Doubled(row.label)
    parts = all_runs(layout)
    if regions is not None:
        wanted = [[table_of(system) for system in region.pieces] for region in regions]
        parts = [both_of(tables, others) for tables, others in zip(parts, wanted)]
    return scanned(nest, times, counters, parts)


def scanned(nest, times, counters, parts):
    """The nest that makes, for each statement, the runs in some tables, in the order of times."""
    layout = Layout(nest)
    sides = (*counters, *nest.sizes, "0")
    nodes = {}
    found = []
    for place, row in enumerate(layout.rows):
        names = marked(row, "<")
        gone = list(names.values())
        for table in all_runs(layout)[place]:
            nodes[place] = _node_by_times(row, _timed(table, names, counters, times[place]), names, sides)
        for table in parted(united(parts[place])):
            found.append(Item(place, without(_timed(table, names, counters, times[place]), gone)))
    body = Scan(nodes, list(counters)).body_at(0, layout.base, found)
    return Nest(nest.sizes, nest.given, nest.rooms, nest.kept, body)


def all_runs(layout):
    """For each statement the tables of its runs."""
    tables = [layout.table_at(place) for place in range(len(layout.rows))]
    return [[] if table is None else [table] for table in tables]


def _timed(table, names, counters, atoms):
    """The table of some runs, with other names for their counters, and with counters that have the times as values."""
    found = with_names(table, {name: names.get(name, name) for name in table})
    for counter, atom in zip(counters, atoms):
        found = with_equal(found, (counter, 0), put_in_atom(atom, names))
    return found


def _node_by_times(row, table, names, sides):
    """The node of a statement with atoms of times and sizes in the place of its counters."""
    values = {counter: _equal_atom(table, names[counter], sides) for counter in row.counters}
    accesses = [(array, _with_values(atoms, values)) for array, atoms in (row.target, *row.reads)]
    return ("run", row.label, _with_values(row.stamp, values), accesses[0], tuple(accesses[1:]))


def _equal_atom(table, name, sides):
    """The atom with one of the sides that is always equal to a name; as times tell runs apart, there is one."""
    for side in sides:
        most = limit_of(table, name, side)
        if most is not None and limit_of(table, side, name) == -most:
            return (side, most)
    return None


def _with_values(atoms, values):
    return tuple([valued(atom, values) for atom in atoms])


def _within(table, those):
    """What is left of some items where a table holds."""
    found = []
    for item in those:
        part = met(item.table, table)
        if part is not None:
            found.append(Item(item.place, part))
    return found


def _place_of(item):
    return item.place


def _guarded(known, case, nodes):
    """The nodes, in a test if the case says more than is known; a loop's own bounds need not be tested."""
    differences = needed(known, fewest_of(case))
    found = nodes
    for at in range(0, len(differences), MOST_ROW):
        found = (("test", tuple(differences[at:at + MOST_ROW]), found),)
    return found


def _check_counters(nest, times, counters):
    """Refuse counters that are not as many different nest names as there are times."""
    for at, name in enumerate(counters):
        if not is_nest_name(name) or name in nest.sizes or name in counters[:at]:
            raise BadName(name)
    if len(times) > 0 and len(counters) != len(times[0]):
        raise BadName(None)
