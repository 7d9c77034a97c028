"""Loops whose rounds may be done in any order."""

from loopsheds.atoms import in_order
from loopsheds.doubling import check_single
from loopsheds.faults import BadKind, NoMove
from loopsheds.finals import axes_of, final_cases
from loopsheds.latest import FIRST
from loopsheds.layouts import Layout, marked, sizes_of, with_bounds, with_equal, with_row
from loopsheds.nests import node_at
from loopsheds.regions import region_of
from loopsheds.sources import source_cases
from loopsheds.unions import simplified, subtracted, united

WHOLE = "whole"
MIXED = "mixed"


def where_free(nest, path, kind):
    """The region of the sizes at which a loop is free."""
    base, bound = _asked(nest, path, kind)
    return region_of(nest.sizes, simplified(subtracted(base, bound)))


def where_bound(nest, path, kind):
    """The region of the sizes at which a loop is not free."""
    return region_of(nest.sizes, _asked(nest, path, kind)[1])


def check_loop(nest, path):
    """Refuse what leads to no loop."""
    if node_at(nest, path)[0] != "loop":
        raise NoMove("free")


def check_question(nest, path, kind):
    """Refuse what leads to no loop, no kind of orders, and a doubled nest."""
    check_loop(nest, path)
    if not isinstance(kind, str) or kind not in (WHOLE, MIXED):
        raise BadKind("orders are whole or mixed")
    check_single(nest)


def _asked(nest, path, kind):
    """The tables of all sizes that are asked for, and of those at which a loop is not free."""
    check_question(nest, path, kind)
    layout = Layout(nest)
    if layout.base is None:
        return [], []
    return [layout.base], Loop(nest, layout, path).bound_sizes(kind)


class Loop:
    """A loop whose rounds are done in other orders.

    A source of a read, or an end of a kept cell, can be another one in two cases only. Another round of the same
    entry writes what a run reads; then the order tells whether the run reads it, unless, for whole rounds, its own
    round has written it before. Or the source, or the end, is a run of an entry that the read is not in, and another
    round of that entry writes the same cell; then the order tells which of them is the last one.
    """

    def __init__(self, nest, layout, path):
        self.nest = nest
        self.layout = layout
        self.path = path
        self.inside = [place for place, row in enumerate(layout.rows) if row.path[:len(path)] == path]
        self.depth = layout.rows[self.inside[0]].levels.index(len(path))

    def bound_sizes(self, kind):
        """The tables of the sizes at which some orders of this kind change something."""
        found = []
        for place, row in enumerate(self.layout.rows):
            for read, access in enumerate(row.reads):
                if self.is_written(access[0]):
                    cases = source_cases(self.layout, place, read)
                    if place in self.inside:
                        found.extend(self.met_by_others(kind, place, access, cases))
                    found.extend(self.sent_by_others(place, access, cases))
        for array in self.nest.kept:
            if self.is_written(array):
                access = (array, [(axis, 0) for axis in axes_of(self.nest, array)])
                cases = final_cases(self.nest, self.layout, array)
                found.extend(self.sent_by_others(None, access, cases))
        return simplified(found)

    def is_written(self, array):
        """Whether a statement in the loop writes to an array."""
        return any(self.layout.rows[place].target[0] == array for place in self.inside)

    def is_inside(self, told):
        """Whether what is told is a run in the loop."""
        return told != FIRST and told[1] in self.inside

    def met_by_others(self, kind, place, access, cases):
        """The tables of the sizes at which another round of a read's entry writes what it reads."""
        own = [(counter, 0) for counter in self.layout.rows[place].counters[:self.depth + 1]]
        tables = []
        for table, told in cases:
            if kind == WHOLE and self.is_inside(told):
                tables.extend(_apart_from(table, own, told[2]))
            else:
                tables.append(table)
        return [part for table in united(tables) for part in self.written_by_others(table, own, access)]

    def sent_by_others(self, place, access, cases):
        """The tables of the sizes at which a run is told, of an entry that the read is not in, that is not alone.

        Without a place, it is the end of a cell that is told, which is in no entry.
        """
        found = []
        for table, told in cases:
            if self.is_inside(told):
                tables = [table]
                if place in self.inside:
                    own = [(counter, 0) for counter in self.layout.rows[place].counters[:self.depth]]
                    tables = _apart_from(table, own, told[2])
                for part in tables:
                    found.extend(self.written_by_others(part, told[2][:self.depth + 1], access))
        return found

    def written_by_others(self, table, at_hand, access):
        """The tables of the sizes at which a cell is written in the same entry, but not in the same round.

        The atoms at hand are the values of the counters of the loops around, and of the loop itself.
        """
        found = []
        for place in self.inside:
            row = self.layout.rows[place]
            if row.target[0] == access[0]:
                names = marked(row, ">")
                counters = [(names[counter], 0) for counter in row.counters[:self.depth + 1]]
                entry = with_row(table, row.target[1], names, access[1], {})
                for one, other in zip(counters[:-1], at_hand):
                    entry = with_equal(entry, one, other)
                entry = with_bounds(entry, self.layout.systems[place], names)
                if entry is not None:
                    found.extend(_apart_from(entry, counters[-1:], at_hand[-1:]))
        return sizes_of(found, self.layout.sizes)


def _apart_from(table, atoms, others):
    """The tables of the points at which not all atoms of a row are equal to those of another row."""
    found = []
    rest = table
    for one, other in zip(atoms, others):
        found.extend([in_order(rest, one, other, 1), in_order(rest, other, one, 1)])
        rest = with_equal(rest, one, other)
    return [part for part in found if part is not None]
