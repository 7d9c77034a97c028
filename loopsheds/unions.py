"""Unions of closed tables, as lists of tables; no table at all has no solution."""

from loopsheds.tables import fewest_of, hull_of, lies_in, met, tightened

# Beyond these numbers of tables it costs more to make them fewer than it saves.
MANY = 40
CROWD = 400


def both_of(ones, others):
    """The union of what two unions have in common."""
    found = []
    for one in ones:
        for other in others:
            table = met(one, other)
            if table is not None:
                found.append(table)
    return found


def cut_off(table, differences):
    """The solutions of a table at which not all differences hold, no two tables with one in common."""
    found = []
    rest = table
    for left, right, limit in differences:
        part = tightened(rest, right, left, -limit - 1)
        if part is not None:
            found.append(part)
        rest = tightened(rest, left, right, limit)
        if rest is None:
            return [table]
    return found


def subtracted(tables, others):
    """What is in the first union and not in the second one; tables that were apart stay so.

    Tables with few differences leave few parts, so they go first.
    """
    rest = tables
    for differences in sorted([fewest_of(other) for other in others], key=len):
        rest = [part for table in rest for part in cut_off(table, differences)]
        if not rest:
            return []
    return rest


def outside(tables):
    """The union of all that is in none of the tables."""
    return united(subtracted([{}], absorbed(tables)))


def parted(tables):
    """The same union, no two tables with a solution in common."""
    found = []
    for at, table in enumerate(tables):
        found.extend(subtracted([table], tables[:at]))
    return found


def absorbed(tables):
    """The same union without tables that lie in another one, as far as not too many are kept."""
    found = []
    for table in tables:
        if len(found) > CROWD:
            found.append(table)
        elif not _lies_in_one(table, found):
            found = [*[other for other in found if not lies_in(other, table)], table]
    return found


def _lies_in_one(table, others):
    for outer in others:
        if lies_in(table, outer):
            return True
    return False


def united(tables):
    """The same union, with one table in the place of two where that can be."""
    if len(tables) > MANY:
        return tables
    found = []
    waiting = list(tables)
    while waiting:
        table = waiting.pop()
        at, both = _partner(table, found)
        if both is None:
            found.append(table)
        else:
            found.pop(at)
            waiting.append(both)
    return found


def _partner(table, others):
    """The place of a table that makes one with this one, and that one; or None twice."""
    differences = fewest_of(table)
    for at, other in enumerate(others):
        both = one_of(table, differences, other)
        if both is not None:
            return at, both
    return None, None


def one_of(table, differences, other):
    """The table with exactly the solutions of two tables, or None; the differences are those of the first one."""
    both = hull_of(table, other)
    for left, right, limit in differences:
        part = tightened(both, right, left, -limit - 1)
        if part is not None and not lies_in(part, other):
            return None
    return both


def simplified(tables):
    """The same union with fewer tables where that is easily seen."""
    return united(absorbed(tables))
