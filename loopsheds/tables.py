"""Closed tables: all that a system says of each two of its names.

A table maps a name, or "0", to a row. A row maps a right side to the greatest value of the name
minus that side at all solutions; a side without such a value is not in the row, and each name has
0 for itself. A name that is not in the table may have any value. A table has a solution: what has
none is None instead. Tables and rows are never changed, so tables share rows.
"""


def tightened(table, left, right, limit):
    """The table with one more difference, or None if it then has no solution."""
    if left not in table or right not in table:
        return tightened(_with_rows(table, left, right), left, right, limit)
    ahead = table[left]
    behind = table[right]
    if right in ahead and ahead[right] <= limit:
        return table
    if left in behind and behind[left] + limit < 0:
        return None
    further = [(name, limit + more) for name, more in behind.items()
               if name not in ahead or limit + more < ahead[name]]
    found = dict(table)
    for name, row in table.items():
        if left in row and (right not in row or row[left] + limit < row[right]):
            found[name] = _lowered(row, row[left], further)
    return found


def _with_rows(table, left, right):
    found = dict(table)
    for name in (left, right):
        if name not in table:
            found[name] = {name: 0}
    return found


def _lowered(row, base, further):
    found = dict(row)
    for name, more in further:
        if name not in found or base + more < found[name]:
            found[name] = base + more
    return found


def limit_of(table, left, right):
    """The greatest value of left minus right, or None if there is none."""
    if left == right:
        return 0
    if left not in table:
        return None
    return table[left].get(right)


def table_of(differences):
    """The table of a system, or None."""
    table = {}
    for left, right, limit in differences:
        table = tightened(table, left, right, limit)
        if table is None:
            return None
    return table


def met(one, other):
    """The table of what both tables say, or None."""
    table = one
    for left, row in other.items():
        for right, limit in row.items():
            if left == right:
                continue
            known = table.get(left)
            if known is not None and right in known and known[right] <= limit:
                continue
            table = tightened(table, left, right, limit)
            if table is None:
                return None
    return table


def pinned(table, name, value):
    """The table with a name that has just this value, or None."""
    below = tightened(table, name, "0", value)
    if below is None:
        return None
    return tightened(below, "0", name, -value)


def without(table, names):
    """The table of the solutions that some integers for these names complete."""
    return {left: {right: limit for right, limit in row.items() if right not in names}
            for left, row in table.items() if left not in names}


def with_names(table, names):
    """The table with other names: a dict tells the new one for each old one."""
    return {names[left]: {names[right]: limit for right, limit in row.items()}
            for left, row in table.items()}


def lies_in(table, outer):
    """Whether each solution of a table is one of the other table."""
    for left, row in outer.items():
        mine = table.get(left)
        for right, limit in row.items():
            if left != right and (mine is None or right not in mine or mine[right] > limit):
                return False
    return True


def solves(point, table):
    """Whether a point is a solution of a table; "0" is one of its keys."""
    for left, row in table.items():
        for right, limit in row.items():
            if point[left] - point[right] > limit:
                return False
    return True


def some_point(table, names):
    """A solution of a table, with exactly these names."""
    values = {name: min(row.values()) for name, row in table.items()}
    base = values.get("0", 0)
    return {name: values.get(name, base) - base for name in names}


def hull_of(one, other):
    """The least table that has the solutions of both."""
    return {left: {right: max(limit, other[left][right]) for right, limit in row.items()
                   if right in other[left]}
            for left, row in one.items() if left in other}


def fewest_of(table):
    """As few differences as can be that have the solutions of a table."""
    groups = _groups(table)
    found = []
    for members in groups:
        if len(members) > 1:
            for at, left in enumerate(members):
                right = members[(at + 1) % len(members)]
                found.append((left, right, table[left][right]))
    leaders = {members[0]: True for members in groups}
    for left in leaders:
        for right in leaders:
            if left != right and right in table[left] and not _follows(table, left, right, leaders):
                found.append((left, right, table[left][right]))
    return found


def _groups(table):
    """The names of a table, those that are equal up to a number together; "0" stands first."""
    found = {}
    leaders = []
    for name in _in_order(table):
        leader = _leader(table, name, leaders)
        if leader is None:
            found[name] = [name]
            leaders.append(name)
        else:
            found[leader].append(name)
    return list(found.values())


def _in_order(table):
    names = sorted([name for name in table if name != "0"])
    if "0" in table:
        return ["0", *names]
    return names


def _leader(table, name, leaders):
    """The leader that the name is equal to up to a number, or None."""
    row = table[name]
    for leader in leaders:
        if leader in row and name in table[leader] and row[leader] + table[leader][name] == 0:
            return leader
    return None


def _follows(table, left, right, leaders):
    """Whether the limit of two leaders is the sum of two limits by way of a third one."""
    limit = table[left][right]
    for name, first in table[left].items():
        if name != left and name != right and name in leaders and right in table[name]:
            if first + table[name][right] <= limit:
                return True
    return False
