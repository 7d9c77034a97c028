"""What a name, a difference and a system are."""

from loopsheds.errors import BadDifference, BadName


def is_whole(thing):
    """Whether something is an integer; booleans are none."""
    return isinstance(thing, int) and not isinstance(thing, bool)


def is_side(thing):
    """Whether something can be a side of a difference: a name or "0"."""
    return isinstance(thing, str) and thing != ""


def is_name(thing):
    """Whether something is a name."""
    return is_side(thing) and thing != "0"


def is_difference(thing):
    """Whether something is a difference."""
    if not isinstance(thing, (tuple, list)) or len(thing) != 3:
        return False
    left, right, limit = thing
    return is_side(left) and is_side(right) and left != right and is_whole(limit)


def copied(thing):
    """A copy of something, with all lists and dicts within it."""
    if isinstance(thing, list):
        return [copied(part) for part in thing]
    if isinstance(thing, tuple):
        return tuple([copied(part) for part in thing])
    if isinstance(thing, dict):
        return {key: copied(thing[key]) for key in thing}
    return thing


def read_system(system):
    """The differences of a system, as tuples in a new list."""
    found = []
    for place, entry in enumerate(system):
        if not is_difference(entry):
            raise BadDifference(place)
        found.append(tuple(entry))
    return found


def read_names(names):
    """The names as a tuple, if they are names and all different."""
    found = []
    for name in names:
        if not is_name(name) or name in found:
            raise BadName(name)
        found.append(name)
    return tuple(found)


def names_of(differences):
    """The names of differences in the order of their first occurrence, without "0"."""
    found = {}
    for left, right, _ in differences:
        found[left] = True
        found[right] = True
    return [name for name in found if name != "0"]


def holds_at(differences, point):
    """Whether all differences hold at a point."""
    values = {**point, "0": 0}
    return all(values[left] - values[right] <= limit for left, right, limit in differences)
