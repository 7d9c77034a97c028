"""Regions: sets of points over a row of names that are unions of systems."""

from loopsheds.errors import BadDifference, BadName, NoSolution, Unbounded, Unlike
from loopsheds.systems import is_difference, is_side, read_names
from loopsheds.tables import fewest_of, limit_of, pinned, solves, some_point, table_of, with_names, without
from loopsheds.unions import absorbed, both_of, outside, parted, simplified, subtracted, united


class Region:
    """The points over the names that solve at least one of the systems."""

    def __init__(self, names, systems):
        self._names = read_names(names)
        self._tables = _read_tables(self._names, systems)

    @classmethod
    def whole(cls, names):
        """The region of all points."""
        return cls(names, [[]])

    @classmethod
    def nothing(cls, names):
        """The region without points."""
        return cls(names, [])

    @property
    def names(self):
        """The tuple of the names."""
        return self._names

    @property
    def pieces(self):
        """A new list of systems, each with a solution, whose union the region is."""
        return [fewest_of(table) for table in self._tables]

    def __and__(self, other):
        _check_alike(self, other)
        return region_of(self._names, absorbed(both_of(self._tables, other._tables)))

    def __or__(self, other):
        _check_alike(self, other)
        return region_of(self._names, simplified([*self._tables, *other._tables]))

    def __sub__(self, other):
        _check_alike(self, other)
        return region_of(self._names, united(subtracted(self._tables, other._tables)))

    def __invert__(self):
        return region_of(self._names, outside(self._tables))

    def __contains__(self, point):
        values = {name: point[name] for name in self._names}
        values["0"] = 0
        for table in self._tables:
            if solves(values, table):
                return True
        return False

    def __bool__(self):
        return bool(self._tables)

    def within(self, other):
        """Whether each point is in the other region."""
        _check_alike(self, other)
        return not subtracted(self._tables, other._tables)

    def same(self, other):
        """Whether both regions have the same points."""
        _check_alike(self, other)
        return not subtracted(self._tables, other._tables) and not subtracted(other._tables, self._tables)

    def apart(self):
        """The same region, with pieces that have no points in common."""
        return region_of(self._names, parted(self._tables))

    def shadow(self, *names):
        """The region over some of the names: the points that can be completed."""
        kept = read_names(names)
        for name in kept:
            if name not in self._names:
                raise BadName(name)
        gone = [name for name in self._names if name not in kept]
        return region_of(kept, simplified([without(table, gone) for table in self._tables]))

    def over(self, *names):
        """The region over a row of names with all of its own; new ones may have any value."""
        wide = read_names(names)
        for name in self._names:
            if name not in wide:
                raise BadName(name)
        return region_of(wide, self._tables)

    def renamed(self, *names):
        """The region with other names, place by place."""
        late = read_names(names)
        if len(late) != len(self._names):
            raise Unlike("names")
        table_names = dict(zip(self._names, late))
        table_names["0"] = "0"
        return region_of(late, [with_names(table, table_names) for table in self._tables])

    def fixed(self, values):
        """The region over the other names where these names have these values."""
        for name in values:
            if name not in self._names:
                raise BadName(name)
        tables = self._tables
        for name, value in values.items():
            tables = _pinned_all(tables, name, value)
        kept = tuple([name for name in self._names if name not in values])
        return region_of(kept, simplified([without(table, list(values)) for table in tables]))

    def point(self):
        """A point of the region, or None."""
        if not self._tables:
            return None
        return some_point(self._tables[0], self._names)

    def first_point(self):
        """The lexicographically least point, or None."""
        if not self._tables:
            return None
        tables = self._tables
        found = {}
        for name in self._names:
            limits = [limit_of(table, "0", name) for table in tables]
            if None in limits:
                raise Unbounded(name)
            found[name] = -max(limits)
            tables = _pinned_all(tables, name, found[name])
        return found

    def hull(self):
        """The differences with a greatest value, for each two of the names and "0"."""
        if not self._tables:
            raise NoSolution("the region has no point")
        sides = ["0", *self._names]
        found = []
        for left in sides:
            for right in sides:
                limits = [limit_of(table, left, right) for table in self._tables]
                if left != right and None not in limits:
                    found.append((left, right, max(limits)))
        return found

    def spread(self, left, right="0"):
        """The values of left minus right, as an ascending list of pairs."""
        for side in (left, right):
            if not is_side(side) or (side != "0" and side not in self._names):
                raise BadName(side)
        found = []
        for low, high in _stretches(self._tables, left, right):
            if found and _touches(found[-1], low):
                found[-1] = (found[-1][0], _higher(found[-1][1], high))
            else:
                found.append((low, high))
        return found


def region_of(names, tables):
    """The region over the names with these closed tables."""
    made = Region(names, [])
    made._tables = tables
    return made


def _read_tables(names, systems):
    """The tables of the systems that have a solution."""
    checked = [_checked(names, system) for system in systems]
    found = []
    for differences in checked:
        table = table_of(differences)
        if table is not None:
            found.append(table)
    return found


def _checked(names, system):
    """The differences of a system, whose sides are "0" or among the names."""
    found = []
    for place, entry in enumerate(system):
        if not is_difference(entry) or not _fits(names, entry):
            raise BadDifference(place)
        found.append(tuple(entry))
    return found


def _fits(names, difference):
    left, right, _ = difference
    return (left == "0" or left in names) and (right == "0" or right in names)


def _check_alike(one, other):
    if one.names != other.names:
        raise Unlike("names")


def _pinned_all(tables, name, value):
    """What is left of the tables if a name has just this value."""
    found = []
    for table in tables:
        part = pinned(table, name, value)
        if part is not None:
            found.append(part)
    return found


def _stretches(tables, left, right):
    """The pairs of least and greatest value in each table, those without a least one first."""
    endless = []
    found = []
    for table in tables:
        high = limit_of(table, left, right)
        back = limit_of(table, right, left)
        if back is None:
            endless.append((None, high))
        else:
            found.append((-back, high))
    return [*endless, *sorted(found, key=_low_of)]


def _low_of(stretch):
    return stretch[0]


def _touches(stretch, low):
    """Whether a stretch leaves no integer between itself and the low end of a later one."""
    return low is None or stretch[1] is None or low <= stretch[1] + 1


def _higher(one, other):
    if one is None or other is None:
        return None
    return max(one, other)
