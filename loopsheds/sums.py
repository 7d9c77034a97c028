"""Sums of polynomials over the solutions of closed tables: rows of a table and a polynomial.

The names that are summed away go one after the other. Where the greatest of several lows, or the
least of several highs, decides, the rest is parted into tables of which each knows its low and high.
"""

from loopsheds.atoms import highs_of, lows_of, with_greatest, with_least
from loopsheds.polynomials import Poly, summed
from loopsheds.tables import fewest_of, lies_in, met, without
from loopsheds.unions import cut_off, united


def endless_name(table, names):
    """One of the names that has values without end at some choice of all other names, or None."""
    for name in names:
        row = table.get(name, {})
        highs = [side for side in row if side not in names]
        lows = [side for side in table if side not in names and name in table[side]]
        if not highs or not lows:
            return name
    return None


def summed_away(table, poly, names):
    """Rows over the other names: what the polynomial adds up to over the values of these names."""
    found = []
    waiting = [(table, poly, names)]
    while waiting:
        part, worth, left = waiting.pop()
        if not worth:
            continue
        if not left:
            found.append((part, worth))
            continue
        name = _simplest(part, left)
        rest = [other for other in left if other != name]
        for case, low, high in cases_of(part, name):
            more = summed(worth, name, Poly.of(low[0], low[1]), Poly.of(high[0], high[1]))
            waiting.append((case, more, rest))
    return found


def _simplest(table, names):
    """The name that makes the fewest cases."""
    sizes = [len(lows_of(table, name)) * len(highs_of(table, name)) for name in names]
    return names[sizes.index(min(sizes))]


def cases_of(table, name):
    """Tables without the name and without common solutions, each with the low and the high of the name."""
    lows = lows_of(table, name)
    highs = highs_of(table, name)
    rest = without(table, [name])
    found = []
    for at, low in enumerate(lows):
        part = with_greatest(rest, low, lows[:at], lows[at + 1:])
        if part is None:
            continue
        for place, high in enumerate(highs):
            case = with_least(part, high, highs[:place], highs[place + 1:])
            if case is not None:
                found.append((case, low, high))
    return found


def overlaid(rows, others):
    """Rows without common solutions that tell the sum of both rows; either has no common solutions."""
    found = rows
    for table, poly in others:
        found = _with_row(found, table, poly)
    return found


def _with_row(rows, table, poly):
    """Rows without common solutions, with one more row that may have some with them."""
    found = []
    rest = [table]
    differences = fewest_of(table)
    for known, worth in rows:
        shared = met(known, table)
        if shared is None:
            found.append((known, worth))
            continue
        if worth + poly:
            found.append((shared, worth + poly))
        if not lies_in(known, table):
            found.extend([(part, worth) for part in cut_off(known, differences)])
        limits = fewest_of(known)
        rest = [part for piece in rest for part in cut_off(piece, limits)]
    return [*found, *[(part, poly) for part in rest]]


def tidied(rows):
    """The same rows, with one row in the place of several of one polynomial where that can be."""
    tables = {}
    polys = {}
    for table, poly in rows:
        key = (tuple(poly.terms.items()), poly.below)
        polys[key] = poly
        tables.setdefault(key, []).append(table)
    return [(table, polys[key]) for key in polys for table in united(tables[key])]
