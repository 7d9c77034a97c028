"""Atoms in closed tables: the least and greatest values of a name, and their order."""

from loopsheds.tables import tightened


def lows_of(table, name):
    """The atoms that are a least value of a name, without those that are never the greatest."""
    atoms = [(side, -row[name]) for side, row in table.items() if side != name and name in row]
    found = []
    for side, shift in atoms:
        if not any([_is_at_most(table, side, shift, other) for other in found]):
            above = [other for other in found if not _is_at_most(table, other[0], other[1], (side, shift))]
            found = [*above, (side, shift)]
    return found


def highs_of(table, name):
    """The atoms that are a greatest value of a name, without those that are never the least."""
    atoms = [(side, limit) for side, limit in table.get(name, {}).items() if side != name]
    found = []
    for side, shift in atoms:
        if not any([_is_at_most(table, other[0], other[1], (side, shift)) for other in found]):
            below = [other for other in found if not _is_at_most(table, side, shift, other)]
            found = [*below, (side, shift)]
    return found


def _is_at_most(table, side, shift, atom):
    """Whether one atom is never above another one."""
    other, more = atom
    limit = 0 if side == other else table[side].get(other)
    return limit is not None and limit + shift <= more


def with_greatest(table, atom, earlier, later):
    """The table where an atom is above the earlier ones and not below the later ones, or None."""
    found = table
    for other in earlier:
        found = in_order(found, other, atom, 1)
    for other in later:
        found = in_order(found, other, atom, 0)
    return found


def with_least(table, atom, earlier, later):
    """The table where an atom is below the earlier ones and not above the later ones, or None."""
    found = table
    for other in earlier:
        found = in_order(found, atom, other, 1)
    for other in later:
        found = in_order(found, atom, other, 0)
    return found


def in_order(table, one, other, gap):
    """The table where one atom plus the gap is at most the other one, or None."""
    if table is None:
        return None
    limit = other[1] - one[1] - gap
    if one[0] == other[0]:
        return table if limit >= 0 else None
    return tightened(table, one[0], other[0], limit)
