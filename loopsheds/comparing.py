"""Comparing Counts: a point at which they differ, for all values of the names."""

from loopsheds.atoms import highs_of, in_order, lows_of
from loopsheds.errors import Unlike
from loopsheds.polynomials import Poly
from loopsheds.tables import met, some_point, table_of, tightened, without
from loopsheds.unions import subtracted


def unlike_at(one, other):
    """A point at which two Counts differ, or None if they are equal at all points."""
    if one.names != other.names:
        raise Unlike("names")
    for table, poly in _differences(_rows(one), _rows(other)):
        point = _point_off_zero(table, poly, list(one.names))
        if point is not None:
            return {name: point[name] for name in one.names}
    return None


def _rows(counted):
    return [(table_of(system), poly) for system, poly in counted]


def _differences(rows, others):
    """Rows that tell by how much the polynomials of two Counts differ, for all points of either."""
    tables = [row[0] for row in rows]
    other_tables = [row[0] for row in others]
    found = []
    for table, poly in rows:
        for known, worth in others:
            shared = met(table, known)
            if shared is not None:
                found.append((shared, poly - worth))
    for table, poly in rows:
        found.extend([(part, poly) for part in subtracted([table], other_tables)])
    for known, worth in others:
        found.extend([(part, worth) for part in subtracted([known], tables)])
    return found


def _point_off_zero(table, poly, names):
    """A solution of a table, over the names, at which a polynomial is not 0, or None.

    Where a name of the polynomial has more values than the polynomial has zeros, the polynomial is
    0 for all of them only if the coefficients of all powers of the name are. Where it has no more,
    it is one of a few atoms, which are put in its place.
    """
    if not poly:
        return None
    degrees = [(poly.degree(name), name) for name in names if poly.degree(name) > 0]
    if not degrees:
        return some_point(table, names)
    degree, name = min(degrees)
    point = _long_point(table, poly, names, name, degree)
    if point is not None:
        return point
    for low in lows_of(table, name):
        for high in highs_of(table, name):
            part = in_order(table, high, low, 1 - degree)
            if part is not None:
                point = _short_point(part, poly, names, (name, degree), low)
                if point is not None:
                    return point
    return None


def _long_point(table, poly, names, name, degree):
    """Such a point where the name has more values, one behind the other, than its degree."""
    part = table
    for side, limit in table.get(name, {}).items():
        if side != name and part is not None:
            part = tightened(part, name, side, limit - degree)
    if part is None:
        return None
    others = [other for other in names if other != name]
    shadow = without(part, [name])
    for many in range(degree + 1):
        point = _point_off_zero(shadow, poly.coefficient(name, many), others)
        if point is not None:
            return _completed(part, poly, point, name, degree)
    return None


def _completed(table, poly, point, name, degree):
    """The point with a value for the name at which the polynomial is not 0."""
    values = {**point, "0": 0}
    lows = [values[side] - row[name] for side, row in table.items() if side != name and name in row]
    highs = [values[side] + limit for side, limit in table.get(name, {}).items() if side != name]
    first = 0
    if lows:
        first = max(lows)
    elif highs:
        first = min(highs)
    for value in range(first, first + degree + 1):
        values[name] = value
        if poly.fraction(values)[0] != 0:
            return {**point, name: value}
    return None


def _short_point(table, poly, names, place, low):
    """Such a point where the name is one of the few values from its low on."""
    name, degree = place
    side, shift = low
    others = [other for other in names if other != name]
    for more in range(shift, shift + degree):
        part = tightened(table, name, side, more)
        if part is not None:
            part = tightened(part, side, name, -more)
        if part is not None:
            point = _point_off_zero(without(part, [name]), poly.put(name, Poly.of(side, more)), others)
            if point is not None:
                values = {**point, "0": 0}
                return {**point, name: values[side] + more}
    return None
