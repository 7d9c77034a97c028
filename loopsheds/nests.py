"""Nests of loops: their parts, their statements, and when these are run."""

from loopsheds.faults import NoNode, NoPlace
from loopsheds.parts import check_body, check_heading, numbers_of
from loopsheds.systems import is_whole


class Nest:
    """A nest: sizes, what is given of them, rooms, kept arrays, and a body of nodes."""

    def __init__(self, sizes, given, rooms, kept, body):
        check_heading(sizes, given, rooms, kept)
        check_body(body, sizes, 0)
        nodes = [node for node, _, _ in _runs_in(body, (), ())]
        labels = numbers_of([(node[1], (len(node[2]), len(node[4]))) for node in nodes])
        indexes = [(array, len(atoms)) for node in nodes for array, atoms in (node[3], *node[4])]
        arrays = numbers_of([*[(array, len(pairs)) for array, pairs in rooms.items()], *indexes])
        self.sizes = sizes
        self.given = given
        self.kept = kept
        self.body = body
        self._rooms = dict(rooms)
        self._labels = list(labels)
        self._arrays = arrays

    @property
    def rooms(self):
        """A new dict of the rooms."""
        return dict(self._rooms)

    @property
    def labels(self):
        """The ascending list of the labels."""
        return list(self._labels)

    @property
    def arrays(self):
        """The ascending dict from the arrays to their numbers of indexes."""
        return dict(self._arrays)

    def supposing(self, *differences):
        """The nest with further differences given."""
        return Nest(self.sizes, (*self.given, *differences), self._rooms, self.kept, self.body)


class Statement:
    """A statement of a nest, with what stands around it."""

    def __init__(self, node, path, around):
        self.label = node[1]
        self.stamp = node[2]
        self.target = node[3]
        self.reads = node[4]
        self.path = path
        self.levels = [at + 1 for at, outer in enumerate(around) if outer[0] == "loop"]
        self.loops = [outer[1:5] for outer in around if outer[0] == "loop"]
        self.counters = tuple([outer[1] for outer in around if outer[0] == "loop"])
        self.tests = [difference for outer in around if outer[0] == "test" for difference in outer[1]]


def statements(nest):
    """The statements of a nest in the order of the text."""
    return [Statement(node, path, around) for node, path, around in _runs_in(nest.body, (), ())]


def _runs_in(body, path, around):
    """The statements in a body, each with its path and the nodes around it."""
    found = []
    for at, node in enumerate(body):
        if node[0] == "run":
            found.append((node, (*path, at), around))
        else:
            found.extend(_runs_in(node[-1], (*path, at), (*around, node)))
    return found


def bounds(nest, place):
    """The system that says when the statement at a place is run."""
    rows = _runs_in(nest.body, (), ())
    check_place(place, len(rows))
    return [*bounds_of(rows[place][2]), *sizes_system(nest)]


def check_place(place, many):
    """Refuse what is no position in a row of so many."""
    if not is_whole(place) or not 0 <= place < many:
        raise NoPlace("there is no such place")


def all_bounds(nest):
    """The bounds of each statement, in the order of the text."""
    last = sizes_system(nest)
    return [[*bounds_of(around), *last] for _, _, around in _runs_in(nest.body, (), ())]


def sizes_system(nest):
    """The system of the sizes that keep what is given."""
    return [*nest.given, *[("0", size, 0) for size in nest.sizes]]


def bounds_of(around):
    """The differences of the nodes around a statement, from outside in."""
    found = []
    for node in around:
        if node[0] == "test":
            found.extend(node[1])
        else:
            counter = node[1]
            found.extend([(name, counter, -shift) for name, shift in node[2]])
            found.extend([(counter, name, shift) for name, shift in node[3]])
    return found


def node_at(nest, path):
    """The node that a path leads to."""
    if not isinstance(path, tuple) or path == ():
        raise NoNode(path)
    body = nest.body
    node = None
    for at in path:
        if not is_whole(at) or not 0 <= at < len(body):
            raise NoNode(path)
        node = body[at]
        body = () if node[0] == "run" else node[-1]
    return node
