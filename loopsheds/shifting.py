"""Neighbouring loops that go as one, each a number of rounds late."""

from loopsheds.atoms import in_order
from loopsheds.errors import BadNumber, BadShifts, Descending, NoLoop
from loopsheds.faults import NoNode
from loopsheds.layouts import (Layout, all_sizes, atoms_of, marked, shared_accesses, sizes_of, with_bounds, with_equal,
                               with_row)
from loopsheds.nests import node_at
from loopsheds.regions import region_of
from loopsheds.rewriting import body_around
from loopsheds.systems import is_whole
from loopsheds.times import order_times
from loopsheds.unions import simplified
from loopsheds.witnesses import least_point, least_sizes, sizes_at, values_at

MOST_DELAY = 9999
# The rounds of the earlier and of the later loop of a touching pair.
EARLY = "*early"
LATE = "*late"


class Shifts:
    """The least shifts of neighbouring loops, and the greatest gaps of two that touch, or two without one."""

    def __init__(self, least, gaps, barred):
        self.least = least
        self.gaps = {pair: gaps[pair] for pair in gaps}
        self.barred = barred

    def __bool__(self):
        return self.least is not None


class Touch:
    """A table of pairs of runs of two loops that touch, each a place and the atoms of its counters."""

    def __init__(self, table, one, other):
        self.table = table
        self.one = one
        self.other = other


class Row:
    """Neighbouring loops, and the pairs of their runs that touch."""

    def __init__(self, nest, path):
        self.layout = Layout(nest)
        self.path = path

    def places_in(self, number):
        """The places of the statements in the loop with a number."""
        path = _neighbour(self.path, number)
        return [place for place, row in enumerate(self.layout.rows) if row.path[:len(path)] == path]

    def touches(self, one, other):
        """The pairs of runs of two loops that touch."""
        return [touch for place in self.places_in(one) for late in self.places_in(other)
                for touch in self.touches_of(place, late)]

    def touches_of(self, place, other):
        """The pairs of runs of two statements that touch."""
        row, other_row = self.layout.rows[place], self.layout.rows[other]
        names, other_names = marked(row, "<"), marked(other_row, ">")
        depth = len([level for level in row.levels if level < len(self.path)])
        around = [(counter, 0) for counter in row.counters[:depth]]
        table = with_row({}, around, names, around, other_names)
        table = with_equal(table, (EARLY, 0), (names[row.counters[depth]], 0))
        table = with_equal(table, (LATE, 0), (other_names[other_row.counters[depth]], 0))
        table = with_bounds(table, self.layout.systems[place], names)
        table = with_bounds(table, self.layout.systems[other], other_names)
        found = []
        for atoms, other_atoms in shared_accesses(row, other_row):
            part = with_row(table, atoms, names, other_atoms, other_names)
            if part is not None:
                found.append(Touch(part, (place, atoms_of(row, names)), (other, atoms_of(other_row, other_names))))
        return found

    def further(self, one, other, gap):
        """The pairs of two loops that touch, with a round in the first one that is more than a gap greater."""
        found = []
        for touch in self.touches(one, other):
            table = in_order(touch.table, (LATE, 0), (EARLY, 0), gap + 1)
            if table is not None:
                found.append(Touch(table, touch.one, touch.other))
        return found

    def broken(self, delays):
        """The pairs that some shifts do not keep."""
        return [touch for one, other in _pairs(len(delays))
                for touch in self.further(one, other, delays[other] - delays[one])]

    def gap_of(self, one, other):
        """The greatest gap of two loops, as one item of a list; None for one without end; no item if none touch."""
        spread = region_of((EARLY, LATE), [touch.table for touch in self.touches(one, other)]).spread(EARLY, LATE)
        return [high for _, high in spread[-1:]]


def shifts(nest, path, many=2, /):
    """The Shifts of so many neighbouring loops."""
    if not is_whole(many) or many < 2:
        raise BadNumber(many)
    _check_loops(nest, path, many)
    row = Row(nest, path)
    gaps = {}
    for one, other in _pairs(many):
        for gap in row.gap_of(one, other):
            if gap is None:
                return Shifts(None, gaps, (one, other))
            gaps[(one, other)] = gap
    return Shifts(_least_delays(gaps, many), gaps, None)


def where_joined(nest, path, delays, /):
    """The region of the sizes at which shifts keep all touching pairs."""
    _check_delays(nest, path, delays)
    tables = [touch.table for touch in Row(nest, path).broken(delays)]
    return all_sizes(nest) - region_of(nest.sizes, simplified(sizes_of(tables, nest.sizes)))


def broken_pair(nest, path, delays, /):
    """Sizes and the two runs of a touching pair that shifts do not keep, or None."""
    _check_delays(nest, path, delays)
    for touch in Row(nest, path).broken(delays):
        names = [name for name, _ in (*touch.one[1], *touch.other[1])]
        point = least_point(touch.table, [*nest.sizes, *names])
        pair = [(place, values_at(point, atoms)) for place, atoms in (touch.one, touch.other)]
        return (sizes_at(point, nest.sizes), *pair)
    return None


def beyond(nest, path, one, other, gap, /):
    """Sizes at which a touching pair of two loops has rounds that are more than a gap apart, or None."""
    _check_loops(nest, path, other + 1)
    tables = [touch.table for touch in Row(nest, path).further(one, other, gap)]
    return least_sizes(sizes_of(tables, nest.sizes), nest.sizes)


def shift_times(nest, path, delays, /):
    """Times by which neighbouring loops go as one, with these shifts."""
    _check_delays(nest, path, delays)
    times = order_times(nest)
    row = Row(nest, path)
    found = [(*atoms, ("0", 0)) for atoms in times]
    for number, delay in enumerate(delays):
        for place in row.places_in(number):
            at = len(path) + len([level for level in row.layout.rows[place].levels if level < len(path)])
            counter, _ = times[place][at]
            found[place] = (*times[place][:at - 1], ("0", path[-1]), (counter, delay), ("0", number),
                            *times[place][at + 1:])
    return found


def _pairs(many):
    """The pairs of two of so many loops, ascending."""
    return [(one, other) for one in range(many) for other in range(one + 1, many)]


def _neighbour(path, number):
    return (*path[:-1], path[-1] + number)


def _check_loops(nest, path, many):
    """Refuse what are not so many neighbouring loops that go up."""
    node_at(nest, path)
    body = body_around(nest, path)
    for number in range(many):
        other = _neighbour(path, number)
        if other[-1] >= len(body):
            raise NoNode(other)
        node = body[other[-1]]
        if node[0] != "loop":
            raise NoLoop(other)
        if node[4]:
            raise Descending(other)


def _check_delays(nest, path, delays):
    """Refuse what are no shifts, and what are not as many loops."""
    if not isinstance(delays, (list, tuple)) or len(delays) < 2:
        raise BadShifts("not two or more numbers")
    if not all(is_whole(delay) and 0 <= delay <= MOST_DELAY for delay in delays):
        raise BadShifts("a number is too small, too great or none")
    _check_loops(nest, path, len(delays))


def _least_delays(gaps, many):
    """The least shifts that leave each gap as far as they have to."""
    found = []
    for other in range(many):
        late = [found[one] + gaps[(one, other)] for one in range(other) if (one, other) in gaps]
        found.append(max([0, *late]))
    return tuple(found)
