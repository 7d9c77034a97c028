"""Nests by chance for several tests, and what they do at small sizes, found from their runs alone."""

import itertools

from loopsheds.nests import Nest
from loopsheds.running import runs
from tests.helpers import holds


class Maker:
    """Makes nests of up to three statements in up to two loops around each; every run has a name of its own."""

    def __init__(self, rng, sizes=("n", "m"), arrays=(("a", 1), ("b", 2), ("t", 0)), labels="fghklpqr"):
        self.rng = rng
        self.sizes = sizes[:rng.randint(1, len(sizes))]
        self.arrays = dict(arrays)
        self.labels = labels
        self.many = 0

    def nest(self, most=3, depth=2):
        goal = self.rng.randint(1, most)
        body = []
        while self.many < goal:
            body.append(self.node((), depth, goal))
        given = ()
        if self.rng.random() < 0.3:
            given = (self.difference(self.sizes),)
        kept = tuple(sorted(name for name in self.arrays if self.rng.random() < 0.5))
        return Nest(self.sizes, given, {}, kept, tuple(body))

    def node(self, counters, depth, goal):
        draw = self.rng.random()
        if depth and draw < 0.75:
            counter = f"c{len(counters)}"
            lows = self.row(counters, "lows")
            highs = self.row(counters, "highs")
            return ("loop", counter, lows, highs, self.rng.random() < 0.35,
                    self.children((*counters, counter), depth - 1, goal))
        if counters and self.rng.random() < 0.15:
            tests = tuple({self.difference((*counters, *self.sizes)): 1 for _ in range(self.rng.randint(1, 2))})
            return ("test", tests, self.children(counters, depth, goal))
        return self.run(counters)

    def children(self, counters, depth, goal):
        found = [self.node(counters, depth, goal)]
        while self.many < goal and self.rng.random() < 0.5:
            found.append(self.node(counters, depth, goal))
        return tuple(found)

    def row(self, counters, kind):
        found = {}
        for _ in range(self.rng.choice([1, 1, 1, 2])):
            if kind == "lows":
                name = self.rng.choice(["0", "0", *counters, *self.sizes])
                found[(name, self.rng.randint(-2, 1))] = 1
            else:
                name = self.rng.choice([*self.sizes, *self.sizes, *counters, "0"])
                found[(name, self.rng.randint(-1, 2))] = 1
        return tuple(found)

    def difference(self, names):
        left, right = self.rng.sample([*names, "0"], 2)
        return (left, right, self.rng.randint(-2, 3))

    def atom(self, counters):
        if counters and self.rng.random() < 0.8:
            return (self.rng.choice(counters), self.rng.randint(-1, 1))
        return (self.rng.choice(["0", *self.sizes]), self.rng.randint(-1, 2))

    def access(self, counters):
        array = self.rng.choice(sorted(self.arrays))
        return (array, tuple(self.atom(counters) for _ in range(self.arrays[array])))

    def run(self, counters):
        label = self.labels[self.many]
        self.many += 1
        stamp = tuple((counter, 0) for counter in counters)
        reads = tuple(self.access(counters) for _ in range(self.rng.choice([0, 1, 1, 2])))
        return ("run", label, stamp, self.access(counters), reads)


def small_sizes(nest, high):
    """All sizes of a nest up to a number that keep what is given."""
    found = []
    for values in itertools.product(range(high + 1), repeat=len(nest.sizes)):
        sizes = dict(zip(nest.sizes, values))
        if holds(nest.given, sizes):
            found.append(sizes)
    return found


def history(nest, sizes):
    """The runs, the sources of their reads (None for first contents), and the last writers of the cells."""
    writers = {}
    found = []
    for run in runs(nest, sizes, most=100000):
        found.append((run, [writers.get(cell) for cell in run.reads]))
        writers[run.writes] = run
    return found, writers


def value_of(atom, point):
    """The value of an atom at a point."""
    return point.get(atom[0], 0) + atom[1]


def told_at(cases, point):
    """What is told by the cases whose systems hold at a point."""
    return [told for system, told in cases if holds(system, point)]


def is_run(told, run, point):
    """Whether a run is what is told at a point; None stands for no run."""
    if run is None:
        return told == ("first",)
    if told[0] != "run" or told[1] != run.place:
        return False
    return tuple(value_of(atom, point) for atom in told[2]) == run.counters


def paths_of(nest):
    """All nodes of a nest with their paths."""
    found = []

    def go(body, path):
        for at, node in enumerate(body):
            found.append(((*path, at), node))
            if node[0] != "run":
                go(node[-1], (*path, at))
    go(nest.body, ())
    return found


def failing(first, second, sizes):
    """What fails of (1), (2) and (3) of [19] at some sizes."""
    traces = [{run.name: [(cell if source is None else source.name) for cell, source in zip(run.reads, sources)]
               for run, sources in history(nest, sizes)[0]} for nest in (first, second)]
    ends = [{cell: run.name for cell, run in history(nest, sizes)[1].items() if cell[0] in nest.kept}
            for nest in (first, second)]
    found = []
    if set(traces[0]) != set(traces[1]):
        found.append("runs")
    if any(traces[0][name] != traces[1][name] for name in traces[0] if name in traces[1]):
        found.append("reads")
    if ends[0] != ends[1]:
        found.append("kept")
    return found


def varied(rng, nest):
    """The nest with some other atoms, bounds, directions and givens."""
    def atom(old, scope):
        draw = rng.random()
        if draw < 0.04:
            return (old[0], old[1] + rng.choice([-1, 1]))
        return (rng.choice([*scope, "0"]), old[1]) if draw < 0.06 else old

    def row(atoms, scope):
        return tuple(atom(old, scope) for old in atoms)

    def change(node, scope):
        if node[0] == "run":
            return ("run", node[1], node[2], (node[3][0], row(node[3][1], scope)),
                    tuple((array, row(atoms, scope)) for array, atoms in node[4]))
        if node[0] == "test":
            tests = tuple((left, right, limit + (rng.random() < 0.1)) for left, right, limit in node[1])
            return ("test", tests, tuple(change(child, scope) for child in node[2]))
        lows, highs = [tuple(dict.fromkeys(row(atoms, scope))) for atoms in node[2:4]]
        down = node[4] != (rng.random() < 0.1)
        return ("loop", node[1], lows, highs, down, tuple(change(child, [*scope, node[1]]) for child in node[5]))
    given = (*nest.given, ("0", nest.sizes[0], -1)) if rng.random() < 0.2 else nest.given
    return Nest(nest.sizes, given, {}, nest.kept, tuple(change(node, list(nest.sizes)) for node in nest.body))
