"""The last run that writes a cell, for all points of a statement at once.

What is told of a point is `("first",)` or `("run", place, atoms)`: the atoms are the values of the writer's counters.
Runs are looked for from the latest on: those that share all loops with the reader and stand in front of it in
the text, those of earlier rounds of the innermost loop, and so on outwards.
"""

from loopsheds.atoms import highs_of, lows_of, with_greatest, with_least
from loopsheds.layouts import ahead_of, shared_length, with_bounds, with_equal, with_row
from loopsheds.tables import met, tightened, without
from loopsheds.unions import subtracted, united

FIRST = ("first",)


class View:
    """The points from which one looks back: a statement's runs, or the cells at the end of a nest."""

    def __init__(self, table, path, levels, counters):
        self.table = table
        self.path = path
        self.levels = levels
        self.counters = counters


class Chance:
    """The last run of one statement ahead of a view's points, in one of the ways to stand ahead of them.

    `tables` has the table of all points that have such a run, or nothing; `cases` has what is told of them.
    """

    def __init__(self, tables, cases):
        self.tables = tables
        self.cases = cases


def view_of(layout, place):
    """The view of a statement's runs."""
    row = layout.rows[place]
    return View(layout.table_at(place), row.path, row.levels, row.counters)


def view_behind(layout):
    """The view of all cells at the end of a nest."""
    return View(layout.base, layout.end, [], ())


def last_writers(layout, view, array, atoms):
    """The cases of the last run that writes the cell with these numbers: pairs of a table and what is told."""
    rest = [] if view.table is None else [view.table]
    found = []
    for ways in _ways(layout, view, array):
        if not rest:
            break
        chances = [_chance(layout, view, atoms, way) for way in ways]
        chances = [chance for chance in chances if chance.tables]
        for table, told in _latest_of(layout, chances):
            found.extend([(part, told) for part in _parts_of(rest, table)])
        rest = subtracted(rest, [table for chance in chances for table in chance.tables])
    found.extend([(table, FIRST) for table in rest])
    return _gathered(found)


def _parts_of(tables, table):
    parts = [met(other, table) for other in tables]
    return [part for part in parts if part is not None]


def _gathered(cases):
    """The cases, with fewer tables for what is told alike."""
    tables = {}
    for table, told in cases:
        tables.setdefault(told, []).append(table)
    return [(table, told) for told in tables for table in united(tables[told])]


def _ways(layout, view, array):
    """The ways in which runs that write to an array can stand ahead of the view, the latest first.

    A way is a statement's place, the number of loops that have the same round, and whether the round of the next
    loop is an earlier one; otherwise the statement stands in front in the text. Ways of one row have to be compared.
    """
    found = {}
    for place, row in enumerate(layout.rows):
        if row.target[0] == array:
            same = shared_length(row.path, view.path)
            levels = [level for level in view.levels if level <= same]
            for depth, level in enumerate(levels):
                found.setdefault((2 * level, 0), []).append((place, depth, True))
            if row.path < view.path:
                found.setdefault((2 * same + 1, row.path[same]), []).append((place, len(levels), False))
    return [found[key] for key in sorted(found, reverse=True)]


def _chance(layout, view, atoms, way):
    """The last run of a statement that stands ahead in this way."""
    place, depth, is_earlier = way
    row = layout.rows[place]
    names = {}
    for at, counter in enumerate(row.counters):
        names[counter] = view.counters[at] if at < depth else f"*{at}"
    unknown = [names[counter] for counter in row.counters[depth:]]
    downs = [loop[3] for loop in row.loops]
    table = with_row(view.table, row.target[1], names, atoms, {})
    if is_earlier and table is not None:
        early, late = f"*{depth}", view.counters[depth]
        table = tightened(table, late, early, -1) if downs[depth] else tightened(table, early, late, -1)
    table = with_bounds(table, layout.systems[place], names)
    if table is None:
        return Chance([], [])
    shared = [(counter, 0) for counter in view.counters[:depth]]
    cases = [(part, ("run", place, (*shared, *atoms_of)))
             for part, atoms_of in _last_values(table, unknown, downs[depth:])]
    return Chance([without(table, unknown)], cases)


def _last_values(table, unknown, downs):
    """The last values of unknown names, one behind the other: pairs of a table and their atoms."""
    found = [(table, ())]
    for at, name in enumerate(unknown):
        later = unknown[at + 1:]
        found = [(piece, (*atoms, atom)) for part, atoms in found
                 for piece, atom in _extremes(part, name, later, downs[at])]
    return found


def _extremes(table, name, unknown, is_least):
    """The least or greatest values of a name, as atoms without unknown names, each where it is the value."""
    seen = without(table, unknown)
    atoms = lows_of(seen, name) if is_least else highs_of(seen, name)
    found = []
    for at, atom in enumerate(atoms):
        earlier, later = atoms[:at], atoms[at + 1:]
        part = with_greatest(table, atom, earlier, later) if is_least else with_least(table, atom, earlier, later)
        part = with_equal(part, (name, 0), atom)
        if part is not None:
            found.append((without(part, [name]), atom))
    return found


def _latest_of(layout, chances):
    """The cases of several statements that stand ahead in the same way: the latest run of all of them."""
    found = []
    tables = []
    for chance in chances:
        found = _with_chance(layout, found, tables, chance)
        tables = [*tables, *chance.tables]
    return found


def _with_chance(layout, cases, tables, chance):
    """The cases of the latest run, of the statements that were seen (they have these tables) and of one more."""
    found = [(part, told) for table, told in chance.cases for part in subtracted([table], tables)]
    for table, told in cases:
        found.extend([(part, told) for part in subtracted([table], chance.tables)])
        for other, new in chance.cases:
            both = met(table, other)
            if both is not None:
                found.extend(_later_of(layout, both, told, new))
    return found


def _later_of(layout, table, told, other):
    """The cases of the later one of two runs."""
    ones = (layout.rows[told[1]], told[2])
    others = (layout.rows[other[1]], other[2])
    early = [(part, other) for part in ahead_of(table, ones, others)]
    return [*early, *[(part, told) for part in ahead_of(table, others, ones)]]
