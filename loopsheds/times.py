"""Times by which the runs of a nest go as they do in the nest."""

from loopsheds.errors import BadTimes, Descending
from loopsheds.nests import statements
from loopsheds.parts import is_atom_of


def order_times(nest):
    """Times that are the positions of nodes, each loop's followed by its counter."""
    rows = statements(nest)
    check_ascending(rows)
    found = [_way_to(row) for row in rows]
    long = max([len(way) for way in found], default=0)
    return [(*way, *[("0", 0)] * (long - len(way))) for way in found]


def check_ascending(rows):
    """Refuse statements with a loop around them that goes down."""
    for row in rows:
        for loop, level in zip(row.loops, row.levels):
            if loop[3]:
                raise Descending(row.path[:level])


def _way_to(row):
    """The positions of the nodes on the way to a statement, each loop's followed by its counter."""
    found = []
    counters = dict(zip(row.levels, row.counters))
    for at, position in enumerate(row.path):
        found.append(("0", position))
        if at + 1 in counters:
            found.append((counters[at + 1], 0))
    return found


def check_times(nest, times):
    """Refuse what does not have a row of atoms for each statement, all of one length."""
    rows = statements(nest)
    for place, row in enumerate(rows):
        if place >= len(times) or not _is_time(times[place], (*row.counters, *nest.sizes)):
            raise BadTimes(place)
        if len(times[place]) != len(times[0]):
            raise BadTimes(place)
    if len(times) > len(rows):
        raise BadTimes(len(rows))


def _is_time(thing, scope):
    """Whether something is a row of atoms, at least one."""
    return isinstance(thing, (tuple, list)) and len(thing) > 0 and all(is_atom_of(atom, scope) for atom in thing)
