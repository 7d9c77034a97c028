"""Strategies: how the side that wins a formula chooses its values."""

from loopsheds.atoms import highs_of, lows_of, with_greatest, with_least
from loopsheds.deciding import tables_where
from loopsheds.errors import BadFormula
from loopsheds.formulas import KINDS, free_names
from loopsheds.systems import holds_at
from loopsheds.tables import fewest_of, without
from loopsheds.unions import simplified


class Strategy:
    """The side that wins, and the cases by which it chooses its values."""

    def __init__(self, winner, prefix, moves):
        self.winner = winner
        self.prefix = list(prefix)
        self.moves = {name: [(list(system), atom) for system, atom in cases] for name, cases in moves.items()}

    def __bool__(self):
        return self.winner == "some"

    def __contains__(self, name):
        return name in self.moves

    def answer(self, name, point):
        """The value that the winner gives a name at a point of the names in front, or None."""
        for system, (base, shift) in self.moves[name]:
            if holds_at(system, point):
                return shift if base == "0" else point[base] + shift
        return None


def strategy(formula, /):
    """The Strategy of the side that wins a formula with its quantifiers in front."""
    if free_names(formula):
        raise BadFormula("open")
    prefix, rests = _split(formula)
    if _has_quantifier(rests[-1]):
        raise BadFormula("prefix")
    winner = "some" if tables_where(formula, True) else "all"
    chances = _chances(prefix, rests, winner)
    names = [name for kind, name in prefix if kind == winner]
    return Strategy(winner, prefix, {name: _cases(chances[name], name) for name in names})


def _split(formula):
    """The quantifiers in front, with different names, and the formula behind each number of them."""
    prefix = []
    names = {}
    rests = [formula]
    while rests[-1][0] in KINDS and rests[-1][1] not in names:
        kind, name, rest = rests[-1]
        prefix.append((kind, name))
        names[name] = True
        rests.append(rest)
    return prefix, rests


def _has_quantifier(formula):
    waiting = [formula]
    while waiting:
        at_hand = waiting.pop()
        if at_hand[0] in KINDS:
            return True
        if at_hand[0] == "not":
            waiting.append(at_hand[1])
        elif at_hand[0] != "compare":
            waiting.extend(at_hand[1])
    return False


def _chances(prefix, rests, winner):
    """For each name of the winner: tables of the points, with this name, from which the winner can win."""
    found = {}
    tables = None
    for at in range(len(prefix) - 1, -1, -1):
        kind, name = prefix[at]
        if kind != winner:
            tables = None
            continue
        if tables is None:
            tables = tables_where(rests[at + 1], winner == "some")
        found[name] = tables
        tables = simplified([without(table, [name]) for table in tables])
    return found


def _cases(tables, name):
    """The cases for a name that has to stay in one of the tables."""
    found = []
    for table in tables:
        rest = without(table, [name])
        lows = lows_of(table, name)
        highs = highs_of(table, name)
        parts = [(rest, ("0", 0))]
        if lows:
            parts = [(with_greatest(rest, low, lows[:at], lows[at + 1:]), low) for at, low in enumerate(lows)]
        elif highs:
            parts = [(with_least(rest, high, highs[:at], highs[at + 1:]), high) for at, high in enumerate(highs)]
        found.extend([(fewest_of(part), atom) for part, atom in parts if part is not None])
    return found
