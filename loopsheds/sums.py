"""Sums of polynomials over the solutions of closed tables: rows of a table and a polynomial.

The names that are summed away go one after the other. Where the greatest of several lows, or the
least of several highs, decides, the rest is parted into tables of which each knows its low and high.
"""

from loopsheds.polynomials import Poly, summed
from loopsheds.tables import fewest_of, lies_in, met, tightened, without
from loopsheds.unions import cut_off, joined


def endless_name(table, names):
    """One of the names that has values without end at some choice of all other names, or None."""
    for name in names:
        row = table.get(name, {})
        highs = [side for side in row if side not in names]
        lows = [side for side in table if side not in names and name in table[side]]
        if not highs or not lows:
            return name
    return None


def summed_away(table, poly, names):
    """Rows over the other names: what the polynomial adds up to over the values of these names."""
    found = []
    waiting = [(table, poly, names)]
    while waiting:
        part, worth, left = waiting.pop()
        if not worth:
            continue
        if not left:
            found.append((part, worth))
            continue
        name = _simplest(part, left)
        rest = [other for other in left if other != name]
        for case, low, high in _cases(part, name):
            more = summed(worth, name, Poly.of(low[0], low[1]), Poly.of(high[0], high[1]))
            waiting.append((case, more, rest))
    return found


def _simplest(table, names):
    """The name that makes the fewest cases."""
    sizes = [len(lows_of(table, name)) * len(highs_of(table, name)) for name in names]
    return names[sizes.index(min(sizes))]


def lows_of(table, name):
    """The atoms that are a least value of a name, without those that are never the greatest."""
    atoms = [(side, -row[name]) for side, row in table.items() if side != name and name in row]
    found = []
    for side, shift in atoms:
        if not any([_is_at_most(table, side, shift, other) for other in found]):
            above = [other for other in found if not _is_at_most(table, other[0], other[1], (side, shift))]
            found = [*above, (side, shift)]
    return found


def highs_of(table, name):
    """The atoms that are a greatest value of a name, without those that are never the least."""
    atoms = [(side, limit) for side, limit in table[name].items() if side != name]
    found = []
    for side, shift in atoms:
        if not any([_is_at_most(table, other[0], other[1], (side, shift)) for other in found]):
            below = [other for other in found if not _is_at_most(table, side, shift, other)]
            found = [*below, (side, shift)]
    return found


def _is_at_most(table, side, shift, atom):
    """Whether one atom is never above another one."""
    other, more = atom
    limit = 0 if side == other else table[side].get(other)
    return limit is not None and limit + shift <= more


def _cases(table, name):
    """Tables without the name and without common solutions, each with the low and the high of the name."""
    lows = lows_of(table, name)
    highs = highs_of(table, name)
    rest = without(table, [name])
    found = []
    for at, low in enumerate(lows):
        part = _with_greatest(rest, low, lows[:at], lows[at + 1:])
        if part is None:
            continue
        for place, high in enumerate(highs):
            case = _with_least(part, high, highs[:place], highs[place + 1:])
            if case is not None:
                found.append((case, low, high))
    return found


def _with_greatest(table, atom, earlier, later):
    """The table where an atom is above the earlier ones and not below the later ones, or None."""
    found = table
    for other in earlier:
        found = _in_order(found, other, atom, 1)
    for other in later:
        found = _in_order(found, other, atom, 0)
    return found


def _with_least(table, atom, earlier, later):
    """The table where an atom is below the earlier ones and not above the later ones, or None."""
    found = table
    for other in earlier:
        found = _in_order(found, atom, other, 1)
    for other in later:
        found = _in_order(found, atom, other, 0)
    return found


def _in_order(table, one, other, gap):
    """The table where one atom plus the gap is at most the other one, or None."""
    if table is None:
        return None
    limit = other[1] - one[1] - gap
    if one[0] == other[0]:
        return table if limit >= 0 else None
    return tightened(table, one[0], other[0], limit)


def overlaid(rows, others):
    """Rows without common solutions that tell the sum of both rows; either has no common solutions."""
    found = rows
    for table, poly in others:
        found = _with_row(found, table, poly)
    return found


def _with_row(rows, table, poly):
    """Rows without common solutions, with one more row that may have some with them."""
    found = []
    rest = [table]
    differences = fewest_of(table)
    for known, worth in rows:
        shared = met(known, table)
        if shared is None:
            found.append((known, worth))
            continue
        if worth + poly:
            found.append((shared, worth + poly))
        if not lies_in(known, table):
            found.extend([(part, worth) for part in cut_off(known, differences)])
        limits = fewest_of(known)
        rest = [part for piece in rest for part in cut_off(piece, limits)]
    return [*found, *[(part, poly) for part in rest]]


def tidied(rows):
    """The same rows, with one row in the place of several of one polynomial where that can be."""
    tables = {}
    polys = {}
    for table, poly in rows:
        key = (tuple(poly.terms.items()), poly.below)
        polys[key] = poly
        tables.setdefault(key, []).append(table)
    return [(table, polys[key]) for key in polys for table in joined(tables[key])]
