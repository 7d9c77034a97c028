"""Strategies: how the side that wins a formula chooses its values."""

from loopsheds.atoms import highs_of, lows_of, with_greatest, with_least
from loopsheds.deciding import tables_where
from loopsheds.errors import BadFormula
from loopsheds.formulas import KINDS, free_names
from loopsheds.systems import holds_at
from loopsheds.tables import fewest_of, without
from loopsheds.unions import outside, simplified


class Strategy:
    """The side that wins, and the cases by which it chooses its values."""

    def __init__(self, winner, prefix, moves):
        self.winner = winner
        self.prefix = list(prefix)
        self.moves = {name: [(list(system), atom) for system, atom in cases] for name, cases in moves.items()}

    def __bool__(self):
        return self.winner == "some"

    def __contains__(self, name):
        return name in self.moves

    def answer(self, name, point):
        """The value that the winner gives a name at a point of the names in front, or None."""
        for system, (base, shift) in self.moves[name]:
            if holds_at(system, point):
                return shift if base == "0" else point[base] + shift
        return None


def strategy(formula, /):
    """The Strategy of the side that wins a formula with its quantifiers in front."""
    if free_names(formula):
        raise BadFormula("open")
    prefix, rest = _split(formula)
    if _has_quantifier(rest):
        raise BadFormula("prefix")
    is_true, regions = _chances(prefix, rest)
    winner = "some" if is_true else "all"
    moves = {}
    for (kind, name), tables in zip(prefix, regions):
        if kind == winner:
            moves[name] = _cases(tables, name)
    return Strategy(winner, prefix, moves)


def _split(formula):
    """The quantifiers in front, with different names, and the formula behind them."""
    prefix = []
    names = {}
    rest = formula
    while rest[0] in KINDS and rest[1] not in names:
        prefix.append((rest[0], rest[1]))
        names[rest[1]] = True
        rest = rest[2]
    return prefix, rest


def _has_quantifier(formula):
    waiting = [formula]
    while waiting:
        at_hand = waiting.pop()
        if at_hand[0] in KINDS:
            return True
        if at_hand[0] == "not":
            waiting.append(at_hand[1])
        elif at_hand[0] != "compare":
            waiting.extend(at_hand[1])
    return False


def _chances(prefix, rest):
    """Whether the formula is true, and the winning points behind each move of the side that moves."""
    regions = []
    is_for = True
    tables = tables_where(rest, True)
    for kind, name in prefix[::-1]:
        if is_for != (kind == "some"):
            tables = outside(tables)
            is_for = not is_for
        regions.append(tables)
        tables = simplified([without(table, [name]) for table in tables])
    return bool(tables) == is_for, regions[::-1]


def _cases(tables, name):
    """The cases for a name that has to stay in one of the tables."""
    found = []
    for table in tables:
        rest = without(table, [name])
        lows = lows_of(table, name)
        highs = highs_of(table, name)
        parts = [(rest, ("0", 0))]
        if lows:
            parts = [(with_greatest(rest, low, lows[:at], lows[at + 1:]), low) for at, low in enumerate(lows)]
        elif highs:
            parts = [(with_least(rest, high, highs[:at], highs[at + 1:]), high) for at, high in enumerate(highs)]
        found.extend([(fewest_of(part), atom) for part, atom in parts if part is not None])
    return found
