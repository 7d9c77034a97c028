"""Pieces: closed tables without common solutions, in the order of the values of a name.

Each piece has its parts: the numbers of the tables from which it was made. At each of its points one of them holds.
"""

from loopsheds.tables import fewest_of, met, tightened, with_names, without
from loopsheds.unions import cut_off, one_of, subtracted

LATER = "*later"


class Piece:
    """A table and its parts, an ascending list."""

    def __init__(self, table, parts):
        self.table = table
        self.parts = parts


def separated(tables):
    """The pieces of several tables; tables that overlap are one piece where that can be."""
    found = []
    for part, table in enumerate(tables):
        found = _with_piece(found, Piece(table, [part]))
    return found


def _with_piece(pieces, piece):
    """Pieces without common solutions, and one more."""
    late = piece
    rest = pieces
    at, both = _partner(late, rest)
    while both is not None:
        rest = [*rest[:at], *rest[at + 1:]]
        late = both
        at, both = _partner(late, rest)
    found = []
    differences = fewest_of(late.table)
    for other in rest:
        shared = met(other.table, late.table)
        if shared is None:
            found.append(other)
            continue
        found.append(Piece(shared, _all_parts(other, late)))
        found.extend([Piece(table, other.parts) for table in cut_off(other.table, differences)])
    alone = subtracted([late.table], [other.table for other in rest])
    return [*found, *[Piece(table, late.parts) for table in alone]]


def _partner(piece, pieces):
    """The position of a piece that overlaps with this one and makes one with it, and that one; or None twice."""
    for at, other in enumerate(pieces):
        if met(other.table, piece.table) is not None:
            both = one_of(other.table, fewest_of(other.table), piece.table)
            if both is not None:
                return at, Piece(both, _all_parts(other, piece))
    return None, None


def _all_parts(piece, other):
    return sorted(set([*piece.parts, *other.parts]))


def ordered(pieces, name):
    """The pieces in an order in which, whatever the other names, the values of the name ascend.

    Where no order serves for all values of the other names, pieces are cut apart.
    """
    waiting = list(pieces)
    found = []
    while waiting:
        ahead = [_earlier_than(waiting, at, name) for at in range(len(waiting))]
        if None in ahead:
            found.append(waiting.pop(ahead.index(None)))
        else:
            waiting = _with_cut(waiting, ahead, name)
    return found


def _earlier_than(pieces, at, name):
    """The position of the first piece that somewhere has an earlier value than the one at a position, or None."""
    for other, piece in enumerate(pieces):
        if other != at and _where_earlier(piece, pieces[at], name) is not None:
            return other
    return None


def _where_earlier(piece, other, name):
    """The table of the other names' values at which a piece has an earlier value than another one, or None."""
    names = {left: left for left in other.table}
    names[name] = LATER
    table = met(piece.table, with_names(other.table, names))
    if table is not None:
        table = tightened(table, name, LATER, -1)
    return None if table is None else without(table, [name, LATER])


def _with_cut(pieces, ahead, name):
    """The pieces with one cut apart: where it is earlier than another one, and the rest.

    For each piece the position of an earlier one is told, so some of them go in a ring. Somewhere in the ring a piece
    is not earlier than the next one wherever it is; otherwise it would be earlier than itself.
    """
    at = 0
    for _ in pieces:
        at = ahead[at]
    rest = []
    while not rest:
        late, at = at, ahead[at]
        table = _where_earlier(pieces[at], pieces[late], name)
        rest = cut_off(pieces[at].table, fewest_of(table))
    both = [met(pieces[at].table, table), *rest]
    others = [piece for other, piece in enumerate(pieces) if other != at]
    return [*[Piece(part, pieces[at].parts) for part in both], *others]
