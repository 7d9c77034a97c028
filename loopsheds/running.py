"""Runs: what a nest does, step by step, at some sizes."""

from loopsheds.faults import BadSizes, TooMany
from loopsheds.nests import statements
from loopsheds.systems import holds_at, is_whole

MOST = 20000
MOST_SIZE = 1000000


class Run:
    """One run of a statement."""

    def __init__(self, place, statement, values):
        self.place = place
        self.counters = tuple([values[counter] for counter in statement.counters])
        self.label = statement.label
        self.numbers = _numbers(statement.stamp, values)
        self.name = (self.label, self.numbers)
        self.writes = _cell(statement.target, values)
        self.reads = tuple([_cell(access, values) for access in statement.reads])


class Play:
    """What a nest does with values: the log of its runs, and the last values of the written cells."""

    def __init__(self, log, cells):
        self.log = list(log)
        self.cells = {cell: cells[cell] for cell in cells}


class Turn:
    """A body that is being done, and the rounds of its loop: the one at hand and the last one."""

    def __init__(self, body, counter, at_hand, last):
        self.body = body
        self.at = 0
        self.counter = counter
        self.at_hand = at_hand
        self.last = last


class Walk:
    """A walk through a nest, from run to run; it keeps the turns itself, as deep as they are."""

    def __init__(self, nest, sizes, most):
        self.worths = {**sizes, "0": 0}
        self.most = most
        self.steps = 0
        self.place = 0
        self.turns = [Turn(_numbered(nest.body, 0)[0], None, 0, 0)]

    def goes_on(self):
        """Go on to the next run; whether there is one."""
        while self.turns:
            turn = self.turns[-1]
            if turn.at == len(turn.body):
                self.end_round(turn)
                continue
            node = turn.body[turn.at]
            turn.at = turn.at + 1
            if node[0] == "run":
                self.make_step()
                self.place = node[1]
                return True
            self.begin(node)
        return False

    def make_step(self):
        """Count one more step, if there may be one."""
        if self.steps >= self.most:
            raise TooMany(self.most)
        self.steps = self.steps + 1

    def begin(self, node):
        """Begin with the body of a loop or a test, if it is to be done."""
        if node[0] == "test":
            if holds_at(node[1], self.worths):
                self.turns.append(Turn(node[2], None, 0, 0))
            return
        _, counter, lows, highs, down, body = node
        first = max(_numbers(lows, self.worths))
        last = min(_numbers(highs, self.worths))
        if first <= last:
            self.make_step()
            turn = Turn(body, counter, last, first) if down else Turn(body, counter, first, last)
            self.worths[counter] = turn.at_hand
            self.turns.append(turn)

    def end_round(self, turn):
        """Go on to the next round of a body that was done, or leave it."""
        if turn.at_hand == turn.last:
            self.turns.pop()
            return
        self.make_step()
        turn.at_hand = turn.at_hand + (1 if turn.at_hand < turn.last else -1)
        turn.at = 0
        self.worths[turn.counter] = turn.at_hand


def _numbered(body, first):
    """The nodes with places in the place of statements, and the first place behind them."""
    found = []
    place = first
    for node in body:
        if node[0] == "run":
            found.append(("run", place))
            place = place + 1
        else:
            inner, place = _numbered(node[-1], place)
            found.append((*node[:-1], inner))
    return found, place


def _numbers(atoms, values):
    return tuple([values[name] + shift for name, shift in atoms])


def _cell(access, values):
    array, atoms = access
    return (array, _numbers(atoms, values))


def are_sizes(nest, sizes):
    """Whether a nest runs for these sizes."""
    if not isinstance(sizes, dict) or sorted(nest.sizes) != _sorted_names(sizes):
        return False
    for worth in sizes.values():
        if not is_whole(worth) or not 0 <= worth <= MOST_SIZE:
            return False
    return holds_at(nest.given, sizes)


def _check_sizes(nest, sizes):
    """Refuse sizes that a nest does not run for."""
    if not are_sizes(nest, sizes):
        raise BadSizes("not sizes of the nest that keep what is given")


def _sorted_names(sizes):
    """The keys in ascending order, or None if one is no string."""
    if not all(isinstance(name, str) for name in sizes):
        return None
    return sorted(sizes)


def runs(nest, sizes, /, *, most=MOST):
    """The runs of a nest at some sizes, in order."""
    _check_sizes(nest, sizes)
    rows = statements(nest)
    walk = Walk(nest, sizes, most)
    while walk.goes_on():
        yield Run(walk.place, rows[walk.place], walk.worths)


def count_steps(nest, sizes, /, *, most=MOST):
    """How many steps a nest makes at some sizes: rounds of loops and runs of statements."""
    _check_sizes(nest, sizes)
    walk = Walk(nest, sizes, most)
    while walk.goes_on():
        pass
    return walk.steps


def trace(nest, sizes, /, *, most=MOST):
    """The runs in order, each as its name and the tuple of the sources of its reads."""
    writers = {}
    found = []
    for run in runs(nest, sizes, most=most):
        found.append((run.name, tuple([_source(cell, writers) for cell in run.reads])))
        writers[run.writes] = run.name
    return found


def _source(cell, writers):
    if cell in writers:
        return ("run", *writers[cell])
    return ("first", *cell)


def endings(nest, sizes, /, *, most=MOST):
    """The ascending dict from the cells that were written to the names of their last writers."""
    writers = {}
    for run in runs(nest, sizes, most=most):
        writers[run.writes] = run.name
    return _ascending(writers)


def _ascending(cells):
    return {cell: cells[cell] for cell in sorted(cells)}


def play(nest, sizes, meaning, first, /, *, most=MOST):
    """The Play of a nest that runs with values."""
    log = []
    cells = {}
    for run in runs(nest, sizes, most=most):
        values = []
        for array, numbers in run.reads:
            if (array, numbers) in cells:
                values.append(cells[(array, numbers)])
            else:
                values.append(first(array, numbers))
        worth = meaning(run.label, run.numbers, values)
        log.append((run.name, worth))
        cells[run.writes] = worth
    return Play(log, _ascending(cells))
