"""Counts: how many points a region has, for all values of its other names."""

from loopsheds.errors import BadName, Unbounded, Unlike
from loopsheds.polynomials import Poly
from loopsheds.sums import endless_name, overlaid, summed_away, tidied
from loopsheds.systems import holds_at, is_whole, read_names
from loopsheds.tables import fewest_of, table_of
from loopsheds.unions import parted


class Count:
    """A function of names: a polynomial for each of several systems, 0 at all other points."""

    def __init__(self, names, rows):
        self._names = tuple(names)
        self.rows = [(list(system), Poly(poly.terms, poly.below)) for system, poly in rows]

    @property
    def names(self):
        """The tuple of the names."""
        return self._names

    def __iter__(self):
        return iter(self.rows)

    def __call__(self, point):
        for system, poly in self.rows:
            if holds_at(system, point):
                return poly(point)
        return 0

    def __add__(self, other):
        _check_alike(self, other)
        return _count_of(self._names, overlaid(_tables_of(self.rows), _tables_of(other.rows)))

    def __sub__(self, other):
        _check_alike(self, other)
        return _count_of(self._names, overlaid(_tables_of(self.rows), _tables_of((-other).rows)))

    def __neg__(self):
        return Count(self._names, [(system, -poly) for system, poly in self.rows])

    def __mul__(self, other):
        if isinstance(other, Poly) or is_whole(other):
            return _times(self, other)
        return NotImplemented

    def __rmul__(self, other):
        if isinstance(other, Poly) or is_whole(other):
            return _times(self, other)
        return NotImplemented


def count(region, *names):
    """How many points a region has for each choice of its other names."""
    return total(region, Poly.constant(1), *names)


def total(region, poly, *names):
    """The sum of a polynomial over the points of a region for each choice of its other names."""
    counted = read_names(names)
    for name in counted:
        if name not in region.names:
            raise BadName(name)
    tables = [table_of(system) for system in region.pieces]
    for table in tables:
        name = endless_name(table, counted)
        if name is not None:
            raise Unbounded(name)
    rows = []
    for table in parted(tables):
        for row in summed_away(table, Poly.constant(1) * poly, list(counted)):
            rows = overlaid(rows, [row])
    return _count_of([name for name in region.names if name not in counted], rows)


def _times(one, factor):
    products = [(system, poly * factor) for system, poly in one.rows]
    return Count(one.names, [(system, poly) for system, poly in products if poly])


def _tables_of(rows):
    return [(table_of(system), poly) for system, poly in rows]


def _count_of(names, rows):
    return Count(names, [(fewest_of(table), poly) for table, poly in tidied(rows)])


def _check_alike(one, other):
    if one.names != other.names:
        raise Unlike("names")
