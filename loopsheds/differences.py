"""Systems of differences: rings, solutions, greatest values and chains."""

from loopsheds.errors import BadDifference, BadName, NoSolution
from loopsheds.systems import is_difference, is_side, names_of, read_system


def ring(system, /):
    """A ring with a negative sum, as a list of positions, or None."""
    return _settled(read_system(system))[0]


def solution(system, /):
    """A solution of a system, or None if it has none."""
    differences = read_system(system)
    found, values = _settled(differences)
    if found is not None:
        return None
    base = values.get("0", 0)
    return {name: values[name] - base for name in names_of(differences)}


def tight(system, left, right, /):
    """The greatest value of left minus right, or None if there is none."""
    return _reached(_solvable(system, left, right), left, right)[0]


def chain(system, left, right, /):
    """The positions of a chain of the least sum, or None if there is no chain."""
    differences = _solvable(system, left, right)
    reach, causes = _reached(differences, left, right)
    if reach is None:
        return None
    found = []
    name = right
    while name != left:
        found.append(causes[name])
        name = differences[causes[name]][0]
    return found[::-1]


def implied(system, difference, /):
    """Whether a difference holds at every solution of a system."""
    differences = read_system(system)
    if not is_difference(difference):
        raise BadDifference(0)
    if _settled(differences)[0] is not None:
        return True
    left, right, limit = difference
    reach = _reached(differences, left, right)[0]
    return reach is not None and reach <= limit


def _solvable(system, left, right):
    """The differences of a system that is asked for two sides, if it has a solution."""
    differences = read_system(system)
    for side in (left, right):
        if not is_side(side):
            raise BadName(side)
    if _settled(differences)[0] is not None:
        raise NoSolution("the system has no solution")
    return differences


def _settled(differences):
    """A ring with a negative sum and None, or None and values at which all holds."""
    values = {}
    for left, right, _ in differences:
        values[left] = 0
        values[right] = 0
    causes = {}
    changed = True
    while changed:
        changed = False
        for place, (left, right, limit) in enumerate(differences):
            if values[right] + limit < values[left]:
                values[left] = values[right] + limit
                causes[left] = place
                changed = True
        found = _turn(differences, causes)
        if found is not None:
            return found, None
    return None, values


def _turn(differences, causes):
    """A ring among the differences that lowered a value last, or None."""
    rounds = {}
    for number, start in enumerate(list(causes)):
        name = start
        while name in causes and name not in rounds:
            rounds[name] = number
            name = differences[causes[name]][1]
        if name in causes and rounds[name] == number:
            return _ring_through(differences, causes, name)
    return None


def _ring_through(differences, causes, start):
    """The ring of the last causes that goes through a name."""
    found = [causes[start]]
    name = differences[causes[start]][1]
    while name != start:
        found.append(causes[name])
        name = differences[causes[name]][1]
    return found


def _reached(differences, left, right):
    """The least sum of a chain, None if there is none, and the last step to each name."""
    steps = {}
    for place, (one, other, limit) in enumerate(differences):
        steps.setdefault(one, []).append((place, other, limit))
    sums = {left: 0}
    causes = {}
    waiting = [left]
    while waiting:
        changed = {}
        for name in waiting:
            for place, other, limit in steps.get(name, []):
                if other not in sums or sums[name] + limit < sums[other]:
                    sums[other] = sums[name] + limit
                    causes[other] = place
                    changed[other] = True
        waiting = list(changed)
    return sums.get(right), causes
