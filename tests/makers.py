"""More nests by chance: neighbouring loops, loops with several children, loops in one another, rooms and times."""

from loopsheds.nests import Nest, node_at, statements
from tests.nesting import Maker, value_of

LABELS = "fghklpqrsuvwxyz"


def around(rng, maker, body):
    """The nest with this body, with some kept arrays and perhaps something given."""
    kept = tuple(name for name in sorted(maker.arrays) if rng.random() < 0.5)
    given = (maker.difference(maker.sizes),) if rng.random() < 0.2 else ()
    return Nest(maker.sizes, given, {}, kept, tuple(body))


def neighbours(rng):
    """A nest with two to four neighbouring loops, perhaps with a loop around them."""
    arrays = (("a", 1), ("b", 1)) if rng.random() < 0.7 else (("a", 1), ("b", 2), ("t", 0))
    maker = Maker(rng, arrays=arrays, labels=LABELS)
    scope = ("c0",) if rng.random() < 0.4 else ()
    counter = f"c{len(scope)}"
    is_alike = rng.random() < 0.5
    heading = (maker.row(scope, "lows"), maker.row(scope, "highs"))
    nodes = []
    for _ in range(rng.randint(2, 4)):
        if not is_alike:
            heading = (maker.row(scope, "lows"), maker.row(scope, "highs"))
        body = [maker.run((*scope, counter)) for _ in range(rng.choice([1, 1, 2]))]
        if rng.random() < 0.2:
            body = [("test", (maker.difference((*scope, counter, *maker.sizes)),), tuple(body))]
        if rng.random() < 0.2:
            body.append(maker.run((*scope, counter)))
        nodes.append(("loop", counter, *heading, rng.random() < 0.1, tuple(body)))
    if scope:
        nodes = [("loop", "c0", (("0", 0),), ((maker.sizes[0], 0),), rng.random() < 0.3, tuple(nodes))]
    return around(rng, maker, nodes)


def families(rng):
    """A nest of one loop with two to four children."""
    arrays = (("a", 1), ("b", 1), ("t", 0)) if rng.random() < 0.7 else (("a", 1), ("b", 2), ("t", 0), ("u", 0))
    maker = Maker(rng, arrays=arrays, labels=LABELS)
    body = []
    for _ in range(rng.randint(2, 4)):
        draw = rng.random()
        if draw < 0.2:
            body.append(("test", (maker.difference(("c0", *maker.sizes)),), (maker.run(("c0",)),)))
        elif draw < 0.35:
            rows = maker.row(("c0",), "lows"), maker.row(("c0",), "highs")
            body.append(("loop", "c1", *rows, False, (maker.run(("c0", "c1")),)))
        else:
            body.append(maker.run(("c0",)))
    heading = ("loop", "c0", maker.row((), "lows"), maker.row((), "highs"), rng.random() < 0.3)
    return around(rng, maker, [(*heading, tuple(body))])


def towers(rng, depth):
    """A nest of loops each of which but the last has the next one as its only child."""
    maker = Maker(rng, arrays=(("a", 2), ("b", 1)))
    scope = ()
    headings = []
    for at in range(depth):
        headings.append(("loop", f"c{at}", maker.row(scope, "lows"), maker.row(scope, "highs"), rng.random() < 0.2))
        scope = (*scope, f"c{at}")
    body = tuple(maker.run(scope) for _ in range(rng.choice([1, 1, 2])))
    for heading in reversed(headings):
        body = ((*heading, body),)
    return around(rng, maker, body)


def thickets(rng, deepest=4):
    """A nest of up to four statements in up to eight loops, that go up, and up to eight tests."""
    maker = Maker(rng, sizes=("n", "m", "q"), labels=LABELS)
    goal = rng.randint(1, 4)
    left = {"loops": 8, "tests": 8}

    def children(scope):
        found = []
        while not found or (maker.many < goal and rng.random() < 0.5):
            draw = rng.random()
            if draw < 0.6 and left["loops"] and len(scope) < deepest:
                left["loops"] -= 1
                counter = f"c{len(scope)}"
                rows = maker.row(scope, "lows"), maker.row(scope, "highs")
                found.append(("loop", counter, *rows, False, children((*scope, counter))))
            elif draw < 0.75 and left["tests"] and scope:
                left["tests"] -= 1
                tests = {maker.difference((*scope, *maker.sizes)): 1 for _ in range(rng.randint(1, 2))}
                found.append(("test", tuple(tests), children(scope)))
            else:
                found.append(maker.run(scope))
        return tuple(found)
    body = []
    while maker.many < goal:
        body.extend(children(()))
    return around(rng, maker, body)


def with_rooms(rng, nest):
    """The nest with rooms for some of its arrays."""
    def pair():
        low = ("0", rng.randint(-2, 1)) if rng.random() < 0.7 else (rng.choice(nest.sizes), rng.randint(-2, 3))
        return (low, (rng.choice([*nest.sizes, "0"]), rng.randint(-1, 4)))
    rooms = {array: tuple(pair() for _ in range(many)) for array, many in nest.arrays.items() if rng.random() < 0.7}
    return Nest(nest.sizes, nest.given, rooms, nest.kept, nest.body)


def some_times(rng, nest):
    """Times that tell the runs of each statement apart."""
    rows = statements(nest)
    long = max([1, *[len(row.counters) for row in rows]]) + rng.randint(0, 2)
    found = []
    for row in rows:
        spots = rng.sample(range(long), len(row.counters))
        atoms = []
        for at in range(long):
            draw = rng.random()
            if at in spots:
                atoms.append((row.counters[spots.index(at)], rng.randint(-2, 2)))
            elif draw < 0.6:
                atoms.append(("0", rng.randint(0, 2)))
            elif draw < 0.8:
                atoms.append((rng.choice(nest.sizes), rng.randint(-2, 2)))
            else:
                atoms.append((rng.choice([*row.counters, *nest.sizes]), rng.randint(-1, 1)))
        found.append(tuple(atoms))
    return found


def time_of(nest, times, run, sizes):
    """The time of a run, and its place behind it."""
    point = {**sizes, **dict(zip(statements(nest)[run.place].counters, run.counters))}
    return [value_of(atom, point) for atom in times[run.place]], run.place


def loops_around(nest, path):
    """How many loops stand around the node at a path."""
    return sum(node_at(nest, path[:at])[0] == "loop" for at in range(1, len(path)))


def rounds_of(nest, sizes):
    """All rounds of all loops: pairs of a path and the values of the counters, with how many runs each has."""
    found = {}

    def go(body, path, values):
        many = 0
        for at, node in enumerate(body):
            if node[0] == "run":
                many += 1
            elif node[0] == "test":
                if all(values.get(left, 0) - values.get(right, 0) <= limit for left, right, limit in node[1]):
                    many += go(node[2], (*path, at), values)
            else:
                low = max(value_of(atom, values) for atom in node[2])
                high = min(value_of(atom, values) for atom in node[3])
                for number in range(low, high + 1):
                    inner = {**values, node[1]: number}
                    runs = go(node[5], (*path, at), inner)
                    counters = tuple(value for name, value in inner.items() if name not in sizes)
                    found[((*path, at), counters)] = runs
                    many += runs
        return many
    go(nest.body, (), dict(sizes))
    return found


def in_stretches(stretches, number):
    return any((low is None or low <= number) and (high is None or number <= high) for low, high in stretches)
