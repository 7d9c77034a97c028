"""Orders of the rounds of one entry of a loop at some sizes, and one that changes something.

A story is all runs of a nest at some sizes, in order; runs are known by their positions in it.
"""

from loopsheds.nests import statements
from loopsheds.running import runs


class Story:
    """The runs of a nest at some sizes, and the entries of one of its loops."""

    def __init__(self, nest, path, sizes):
        rows = statements(nest)
        self.kept = nest.kept
        self.told = list(runs(nest, sizes))
        self.rounds = {}
        self.entries = {}
        for at, run in enumerate(self.told):
            row = rows[run.place]
            if row.path[:len(path)] == path:
                depth = row.levels.index(len(path))
                entry = self.entries.setdefault(run.counters[:depth], {})
                entry.setdefault(run.counters[depth], []).append(at)
                self.rounds[at] = (run.counters[:depth], run.counters[depth])

    def positions(self):
        """The positions of all runs, in order."""
        return list(range(len(self.told)))

    def changed_by(self, entry, order):
        """Whether a read has another source, or a kept cell another last writer, with this order in an entry."""
        late = self.reordered(entry, order)
        return self.sources_of(late) != self.sources_of(self.positions())

    def reordered(self, entry, order):
        """The positions of all runs with the runs of an entry in the order that tells whose turn it is."""
        rounds = self.entries[entry]
        taken = {number: 0 for number in rounds}
        turns = []
        for number in order:
            turns.append(rounds[number][taken[number]])
            taken[number] = taken[number] + 1
        first = min(turns)
        positions = self.positions()
        return [*positions[:first], *turns, *positions[first + len(turns):]]

    def sources_of(self, positions):
        """The sources of the reads of all runs, and the last writers of the kept cells, if the runs go so."""
        writers = {}
        sources = {}
        for at in positions:
            run = self.told[at]
            sources[at] = [writers.get(cell) for cell in run.reads]
            writers[run.writes] = at
        return sources, {cell: at for cell, at in writers.items() if cell[0] in self.kept}

    def writing_rounds(self, entry):
        """For each cell that is written in an entry, the rounds that write it."""
        found = {}
        for number, positions in self.entries[entry].items():
            for at in positions:
                found.setdefault(self.told[at].writes, {})[number] = True
        return found


def blocks_of(rounds, numbers):
    """The turns of whole rounds, one behind the other."""
    return [number for number in numbers for _ in rounds[number]]


def changing_order(story, kind):
    """An entry and an order of its rounds that changes something, or None if there is none."""
    sources, ends = story.sources_of(story.positions())
    used = list(ends.values())
    writing = {entry: story.writing_rounds(entry) for entry in story.entries}
    for at, row in sources.items():
        for read, source in enumerate(row):
            found = None
            if at in story.rounds:
                found = _order_for_read(story, writing, kind, at, read, source)
            if found is not None:
                return found
            if source in story.rounds and story.rounds[source][0] != story.rounds.get(at, (None, None))[0]:
                used.append(source)
    for at in used:
        if at in story.rounds:
            found = _order_for_end(story, writing, kind, at)
            if found is not None:
                return found
    return None


def _order_for_read(story, writing, kind, at, read, source):
    """An entry and an order of it that give a read in it another source, or None."""
    entry, number = story.rounds[at]
    rounds = story.entries[entry]
    if kind == "whole" and story.rounds.get(source) == (entry, number):
        return None
    other = _other_of(writing[entry].get(story.told[at].reads[read], {}), number)
    if other is None:
        return None
    if story.rounds.get(source) == (entry, other):
        return entry, _turns(rounds, kind, [number, *[one for one in rounds if one != number]])
    rest = [one for one in rounds if one != number and one != other]
    if kind == "whole":
        return entry, [other, number, *rest]
    ahead = rounds[number].index(at)
    behind = len(rounds[number]) - ahead
    return entry, [*[number] * ahead, *blocks_of(rounds, [other]), *[number] * behind, *blocks_of(rounds, rest)]


def _order_for_end(story, writing, kind, at):
    """An entry and an order of it in which another round than that of a run writes the run's cell last, or None."""
    entry, number = story.rounds[at]
    rounds = story.entries[entry]
    other = _other_of(writing[entry][story.told[at].writes], number)
    if other is None:
        return None
    return entry, _turns(rounds, kind, [*[one for one in rounds if one != other], other])


def _other_of(numbers, number):
    """The first of some rounds that is another one, or None."""
    for other in numbers:
        if other != number:
            return other
    return None


def _turns(rounds, kind, numbers):
    """The order of rounds that go as wholes, one behind the other."""
    return numbers if kind == "whole" else blocks_of(rounds, numbers)
