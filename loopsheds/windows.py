"""Windows: few places for many cells of an array."""

from loopsheds.errors import BadNumber
from loopsheds.finals import check_array
from loopsheds.latest import FIRST
from loopsheds.layouts import (Layout, ahead_of, atoms_of, marked, put_in_atom, sizes_of, with_bounds, with_equal,
                               with_row)
from loopsheds.nests import check_place
from loopsheds.regions import region_of
from loopsheds.sources import source_cases
from loopsheds.systems import is_whole
from loopsheds.tables import limit_of, tightened
from loopsheds.witnesses import least_point, least_sizes, sizes_at, values_at

# The numbers of the cells that are written and read, at the index of the window.
WRITTEN = "*written"
READ = "*read"


class Window:
    """The least window of an array that serves, or why there is none, and the distances between its cells."""

    def __init__(self, least, why, stretches, sizes):
        self.least = least
        self.why = why
        self.stretches = list(stretches)
        self.sizes = None if sizes is None else dict(sizes)

    def __bool__(self):
        return self.least is not None

    def serves(self, wide):
        """Whether a window of so many places serves."""
        _check_wide(wide)
        return self.why == "" and _multiple_in(self.stretches, wide) is None


class Clash:
    """A read, its source, and a run between them that writes to the place that they share."""

    def __init__(self, sizes, source, reader, writer, distance):
        self.sizes = dict(sizes)
        self.source = source
        self.reader = reader
        self.writer = writer
        self.distance = distance


class Meeting:
    """A table of reads with their sources and runs between that write to the array; runs are told with their atoms."""

    def __init__(self, table, source, reader, read, writer):
        self.table = table
        self.source = source
        self.reader = reader
        self.at_read = read
        self.writer = writer


def window(nest, array, position, /):
    """The Window of an array at an index."""
    _check_index(nest, array, position)
    if array in nest.kept:
        return Window(None, "kept", [], None)
    layout = Layout(nest)
    sizes = _first_sizes(layout, array)
    if sizes is not None:
        return Window(None, "first", [], sizes)
    tables = [meeting.table for meeting in _meetings(layout, array, position)]
    stretches = region_of((WRITTEN, READ), tables).spread(WRITTEN, READ)
    if any(low is None or high is None for low, high in stretches):
        return Window(None, "endless", stretches, None)
    wide = 1
    while _multiple_in(stretches, wide) is not None:
        wide = wide + 1
    return Window(wide, "", stretches, None)


def clash(nest, array, position, wide, /):
    """The Clash that shows that a window does not serve, or None."""
    _check_index(nest, array, position)
    _check_wide(wide)
    layout = Layout(nest)
    for meeting in _meetings(layout, array, position):
        stretch = (_least(meeting.table), limit_of(meeting.table, WRITTEN, READ))
        distance = _multiple_in([stretch], wide)
        if distance is not None:
            return _clash_at(layout, meeting, distance)
    return None


def _check_index(nest, array, position):
    check_array(nest, array)
    check_place(position, nest.arrays[array])


def _check_wide(wide):
    if not is_whole(wide) or wide < 1:
        raise BadNumber(wide)


def _first_sizes(layout, array):
    """The least sizes at which a first content of an array is read, or None."""
    found = []
    for place, row in enumerate(layout.rows):
        for read, access in enumerate(row.reads):
            if access[0] == array:
                found.extend([table for table, told in source_cases(layout, place, read) if told == FIRST])
    return least_sizes(sizes_of(found, layout.sizes), layout.sizes)


def _multiple_in(stretches, wide):
    """A multiple of a number in some stretches without 0, the one next to 0 in the first of them, or None."""
    for low, high in stretches:
        if low is not None and low > 0:
            multiple = -(-low // wide) * wide
            if high is None or multiple <= high:
                return multiple
        else:
            multiple = high // wide * wide
            if low is None or multiple >= low:
                return multiple
    return None


def _least(table):
    back = limit_of(table, READ, WRITTEN)
    return None if back is None else -back


def _meetings(layout, array, position):
    """All meetings of an array, with the numbers of the cells at an index."""
    found = []
    for place, row in enumerate(layout.rows):
        for read, access in enumerate(row.reads):
            if access[0] == array:
                for table, told in source_cases(layout, place, read):
                    if told != FIRST:
                        found.extend(_meetings_of(layout, (place, read), table, told, position))
    return found


def _meetings_of(layout, reader, table, told, position):
    """The meetings of the reads of one case."""
    place, read = reader
    row = layout.rows[place]
    array, atoms = row.reads[read]
    ends = (row, atoms_of(row, {}))
    begin = (layout.rows[told[1]], told[2])
    found = []
    for other, other_row in enumerate(layout.rows):
        if other_row.target[0] == array:
            names = marked(other_row, ">")
            written = [put_in_atom(atom, names) for atom in other_row.target[1]]
            part = with_row(table, _others(written, position), {}, _others(atoms, position), {})
            part = with_equal(with_equal(part, (WRITTEN, 0), written[position]), (READ, 0), atoms[position])
            part = with_bounds(part, layout.systems[other], names)
            middle = (other_row, atoms_of(other_row, names))
            for early in ahead_of(part, begin, middle):
                for between in ahead_of(early, middle, ends):
                    found.append(Meeting(between, (told[1], told[2]), (place, ends[1]), read, (other, middle[1])))
    return found


def _others(atoms, position):
    return [*atoms[:position], *atoms[position + 1:]]


def _clash_at(layout, meeting, distance):
    """The Clash at the least sizes at which a meeting has a distance."""
    table = tightened(tightened(meeting.table, WRITTEN, READ, distance), READ, WRITTEN, -distance)
    names = [name for name, _ in (*meeting.reader[1], *meeting.writer[1])]
    point = least_point(table, [*layout.sizes, *names])
    source, reader, writer = [(place, values_at(point, atoms))
                              for place, atoms in (meeting.source, meeting.reader, meeting.writer)]
    return Clash(sizes_at(point, layout.sizes), source, (*reader, meeting.at_read), writer, distance)
