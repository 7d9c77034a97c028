"""Values that go from one round of a loop to another round of the same entry."""

from loopsheds.atoms import in_order
from loopsheds.freedom import Loop
from loopsheds.latest import FIRST
from loopsheds.layouts import with_equal
from loopsheds.sources import source_cases


class Going:
    """A table of the reads of a statement in a loop whose source is a run of the same entry, or None.

    `source` and `reader` are pairs of a place and the atoms of the counters; `sent` and `met` are the atoms of
    their rounds.
    """

    def __init__(self, table, source, reader, read, depth):
        self.table = table
        self.source = source
        self.reader = reader
        self.at_read = read
        self.sent = source[1][depth]
        self.met = reader[1][depth]

    def further(self, reach):
        """The tables of the reads whose source is more than so many rounds away, no two with one in common."""
        ahead = in_order(self.table, self.sent, self.met, reach + 1)
        behind = in_order(self.table, self.met, self.sent, reach + 1)
        return [table for table in (ahead, behind) if table is not None]


def goings(nest, layout, path):
    """All Goings of a loop; no two have a read in common."""
    loop = Loop(nest, layout, path)
    found = []
    for place in loop.inside:
        row = layout.rows[place]
        own = [(counter, 0) for counter in row.counters]
        for read in range(len(row.reads)):
            if loop.is_written(row.reads[read][0]):
                for table, told in source_cases(layout, place, read):
                    if told != FIRST and told[1] in loop.inside:
                        entry = table
                        for one, other in zip(own[:loop.depth], told[2]):
                            entry = with_equal(entry, one, other)
                        found.append(Going(entry, (told[1], told[2]), (place, own), read, loop.depth))
    return found
