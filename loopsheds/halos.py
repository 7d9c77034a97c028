"""Halos: how far values go between the rounds of a loop."""

from loopsheds.errors import BadNumber, NoLoop
from loopsheds.goings import goings
from loopsheds.layouts import Layout, all_sizes, sizes_of, with_equal
from loopsheds.nests import node_at
from loopsheds.regions import region_of
from loopsheds.systems import is_whole
from loopsheds.unions import simplified
from loopsheds.witnesses import least_point, sizes_at, values_at

# The rounds of a source and of its read.
SENT = "*sent"
MET = "*met"


class Halo:
    """The distances that values go between the rounds of a loop, and the least number that none exceeds."""

    def __init__(self, stretches, least):
        self.stretches = list(stretches)
        self.least = least

    def __bool__(self):
        return self.least is not None


def halo(nest, path, /):
    """The Halo of a loop."""
    check_is_loop(nest, path)
    tables = []
    for going in goings(nest, Layout(nest), path):
        for table in going.further(0):
            tables.append(with_equal(with_equal(table, (SENT, 0), going.sent), (MET, 0), going.met))
    stretches = region_of((SENT, MET), tables).spread(MET, SENT)
    ends = [end for stretch in stretches for end in stretch]
    return Halo(stretches, None if None in ends else max([abs(end) for end in ends], default=0))


def where_near(nest, path, reach, /):
    """The region of the sizes at which no value goes further."""
    _check_reach(nest, path, reach)
    tables = [table for going in goings(nest, Layout(nest), path) for table in going.further(reach)]
    return all_sizes(nest) - region_of(nest.sizes, simplified(sizes_of(tables, nest.sizes)))


def far_value(nest, path, reach, /):
    """Sizes, the source and the read of a value that goes further, or None."""
    _check_reach(nest, path, reach)
    for going in goings(nest, Layout(nest), path):
        for table in going.further(reach):
            names = [name for name, _ in going.reader[1]]
            point = least_point(table, [*nest.sizes, *names])
            source, reader = [(place, values_at(point, atoms)) for place, atoms in (going.source, going.reader)]
            return (sizes_at(point, nest.sizes), source, (*reader, going.at_read))
    return None


def check_is_loop(nest, path):
    """Refuse what leads to no loop."""
    if node_at(nest, path)[0] != "loop":
        raise NoLoop(path)


def _check_reach(nest, path, reach):
    check_is_loop(nest, path)
    if not is_whole(reach) or reach < 0:
        raise BadNumber(reach)
