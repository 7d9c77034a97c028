"""Nests that agree: they make the same runs, each read has the same source, and each kept cell the same end."""

from loopsheds.atoms import in_order
from loopsheds.doubling import check_single
from loopsheds.errors import Unlike
from loopsheds.finals import final_cases
from loopsheds.latest import FIRST
from loopsheds.layouts import (Layout, marked, put_in_atom, sizes_of, valued, with_bounds, with_equal, with_row)
from loopsheds.nests import sizes_system
from loopsheds.regions import region_of
from loopsheds.sources import source_cases
from loopsheds.tables import fewest_of, solves, table_of, without
from loopsheds.unions import absorbed, simplified, subtracted

KINDS = ("runs", "reads", "kept")


class Verdict:
    """Whether two nests agree; if not, the least sizes at which they do not, and what fails there."""

    def __init__(self, is_same, sizes, kind):
        self.is_same = is_same
        self.sizes = None if sizes is None else dict(sizes)
        self.kind = kind

    def __bool__(self):
        return bool(self.is_same)


def where_agree(first, second):
    """The region of the sizes at which two nests are asked and agree."""
    return _pair_of(first, second).where_alike()


def where_unlike(first, second):
    """The region of the sizes at which two nests are asked and do not agree."""
    pair = _pair_of(first, second)
    return region_of(first.sizes, [] if pair.base is None else pair.all_unlike_sizes())


def agree(first, second):
    """The Verdict on two nests."""
    pair = _pair_of(first, second)
    unlike = [] if pair.base is None else [(kind, pair.unlike_sizes(kind)) for kind in KINDS]
    least = region_of(first.sizes, [table for _, tables in unlike for table in tables]).first_point()
    if least is None:
        return Verdict(True, None, "")
    kinds = [kind for kind, tables in unlike if _is_in(least, tables)]
    return Verdict(False, least, kinds[0])


def _is_in(sizes, tables):
    """Whether sizes solve one of the tables."""
    return any(solves({**sizes, "0": 0}, table) for table in tables)


def _pair_of(first, second):
    """Two nests that are compared; refuse two that cannot be compared, and one that is doubled."""
    _check_comparable(first, second)
    return Pair(first, second, Layout(first), Layout(second))


def _check_comparable(first, second):
    """Refuse two nests that cannot be compared, or one that is doubled."""
    if first.sizes != second.sizes:
        raise Unlike("sizes")
    if first.kept != second.kept:
        raise Unlike("kept")
    forms = _forms_of(first)
    other_forms = _forms_of(second)
    if not all(other_forms.get(label, forms[label]) == forms[label] for label in forms):
        raise Unlike("labels")
    arrays = first.arrays
    other_arrays = second.arrays
    for array in first.kept:
        if array in arrays and array in other_arrays and arrays[array] != other_arrays[array]:
            raise Unlike("arrays")
    check_single(first)
    check_single(second)


def _forms_of(nest):
    """For each label its numbers of atoms in the stamp and of reads."""
    return {row.label: (len(row.stamp), len(row.reads)) for row in Layout(nest).rows}


class Pair:
    """Two nests that are compared, each with a layout of its statements, and the sizes at which they are asked."""

    def __init__(self, first, second, one, other):
        self.first = first
        self.second = second
        self.one = one
        self.other = other
        self.base = table_of([*sizes_system(first), *second.given])

    def where_alike(self):
        """The region of the sizes at which the nests are asked and agree."""
        if self.base is None:
            return region_of(self.first.sizes, [])
        return region_of(self.first.sizes, simplified(subtracted([self.base], self.all_unlike_sizes())))

    def all_unlike_sizes(self):
        """The tables of the sizes at which the nests do not agree."""
        return absorbed([table for kind in KINDS for table in self.unlike_sizes(kind)])

    def unlike_sizes(self, kind):
        """The tables of the sizes at which what this kind asks for fails."""
        if kind == "runs":
            tables = self.unlike_runs()
        elif kind == "reads":
            tables = self.unlike_reads()
        else:
            tables = self.unlike_ends()
        return sizes_of(tables, self.first.sizes)

    def unlike_runs(self):
        """The tables of all names of runs that only one of the nests has."""
        found = []
        for label in sorted(set([*self.first.labels, *self.second.labels])):
            names = _names_of_runs(self.one, label, self.base)
            other_names = _names_of_runs(self.other, label, self.base)
            found.extend(subtracted(names, other_names))
            found.extend(subtracted(other_names, names))
        return found

    def unlike_reads(self):
        """The tables of the runs of both nests that have a read with unlike sources."""
        found = []
        cases = {}
        for place, row in enumerate(self.one.rows):
            for other, other_row in enumerate(self.other.rows):
                if row.label == other_row.label:
                    found.extend(self.unlike_reads_of(place, other, cases))
        return found

    def unlike_reads_of(self, place, other, cases):
        """The tables of the runs of two statements with one name that have a read with unlike sources."""
        row, other_row = self.one.rows[place], self.other.rows[other]
        names, other_names = marked(row, "<"), marked(other_row, ">")
        table = with_row(self.base, row.stamp, names, other_row.stamp, other_names)
        table = with_bounds(with_bounds(table, self.one.systems[place], names), self.other.systems[other], other_names)
        if table is None:
            return []
        found = []
        for read, access in enumerate(row.reads):
            ones = _known(cases, self.one, 0, place, read)
            others = _known(cases, self.other, 1, other, read)
            cells = (_named(access, names), _named(other_row.reads[read], other_names))
            found.extend(self.unlike_told(table, (ones, names), (others, other_names), cells))
        return found

    def unlike_told(self, table, told, other_told, cells):
        """The tables of the points at which two rows of cases, each with names of its own, tell unlike things."""
        found = []
        cases, names = told
        other_cases, other_names = other_told
        for system, what in cases:
            part = with_bounds(table, system, names)
            if part is None:
                continue
            worth = _told_name(self.one, what, names, cells[0])
            for other_system, other in other_cases:
                both = with_bounds(part, other_system, other_names)
                if both is not None:
                    found.extend(_unlike(both, worth, _told_name(self.other, other, other_names, cells[1])))
        return found

    def unlike_ends(self):
        """The tables of the cells of kept arrays that have unlike last writers."""
        found = []
        for array in self.first.kept:
            ones = _ends_of(self.first, self.one, array)
            others = _ends_of(self.second, self.other, array)
            cell = (array, ())
            found.extend(self.unlike_told(self.base, (ones, {}), (others, {}), (cell, cell)))
        return found


def _names_of_runs(layout, label, base):
    """The tables of the numbers in the names of all runs of one label."""
    found = []
    for place, row in enumerate(layout.rows):
        if row.label == label:
            names = marked(row, "<")
            table = with_bounds(base, layout.systems[place], names)
            for at, atom in enumerate(row.stamp):
                table = with_equal(table, (str(at + 1), 0), put_in_atom(atom, names))
            if table is not None:
                found.append(without(table, list(names.values())))
    return found


def _known(cases, layout, number, place, read):
    """The cases of a read, with systems; found once for each nest, statement and read."""
    key = (number, place, read)
    if key not in cases:
        cases[key] = [(fewest_of(table), told) for table, told in source_cases(layout, place, read)]
    return cases[key]


def _ends_of(nest, layout, array):
    """The cases of the last writers of an array's cells; an array that does not occur has none."""
    if array not in nest.arrays:
        return [([], FIRST)]
    return [(fewest_of(table), told) for table, told in final_cases(nest, layout, array)]


def _named(access, names):
    """The access with other names for some names."""
    return (access[0], tuple([put_in_atom(atom, names) for atom in access[1]]))


def _told_name(layout, told, names, cell):
    """The name of the run that is told, or of the cell if its first content is told, with atoms for numbers."""
    if told == FIRST:
        return ("first", *cell)
    row = layout.rows[told[1]]
    values = {counter: put_in_atom(atom, names) for counter, atom in zip(row.counters, told[2])}
    return ("run", row.label, tuple([valued(atom, values) for atom in row.stamp]))


def _unlike(table, one, other):
    """The tables of the points at which two names, of runs or cells, are not the same."""
    if one[:2] != other[:2] or len(one[2]) != len(other[2]):
        return [table]
    found = []
    for atom, other_atom in zip(one[2], other[2]):
        found.append(in_order(table, atom, other_atom, 1))
        found.append(in_order(table, other_atom, atom, 1))
    return [part for part in found if part is not None]
