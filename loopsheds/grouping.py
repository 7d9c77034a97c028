"""Neighbouring loops that become fewer loops, and loops in other orders."""

from loopsheds.agreeing import agree, where_unlike
from loopsheds.doubling import check_single
from loopsheds.faults import NoMove
from loopsheds.mixups import is_free
from loopsheds.moves import followed, moved
from loopsheds.nests import node_at
from loopsheds.rewriting import body_around
from loopsheds.rows import first_right, shows_first
from loopsheds.systems import copied, is_whole

MOST_FUSED = 5
MOST_TURNED = 4


class Groups:
    """The first row of groups that can be fused, and sizes at which each row in front of it does not agree."""

    def __init__(self, chosen, against):
        self.chosen = copied(chosen)
        self.against = copied(against)

    def shows(self, nest, path, many):
        """Whether the groups can be fused, and those of all rows in front of them cannot, as told."""
        return shows_first(Fusing(nest, path, many), self.chosen, self.against)


class Fusing:
    """The question to which groups neighbouring loops can be fused."""

    def __init__(self, nest, path, many):
        node_at(nest, path)
        if not _are_alike(nest, path, many):
            raise NoMove("fuse")
        check_single(nest)
        self.nest = nest
        self.path = path
        self.rows = [row for groups in range(1, many + 1) for row in _parted(many, groups)]

    def wrong_at(self, groups):
        """The region of the sizes at which the nest with each group as one loop does not agree with the nest."""
        moves = []
        for at, many in enumerate(groups):
            moves.extend([("fuse", (*self.path[:-1], self.path[-1] + at))] * (many - 1))
        return where_unlike(self.nest, followed(self.nest, *moves))


def fewest_loops(nest, path, many):
    """The Groups with the first row of groups of neighbouring loops that can be fused."""
    chosen, against = first_right(Fusing(nest, path, many))
    return Groups(chosen, against)


def _are_alike(nest, path, many):
    """Whether there are so many neighbouring loops with the same counter, direction and bounds."""
    loops = body_around(nest, path)[path[-1]:]
    if not is_whole(many) or not 1 <= many <= min(MOST_FUSED, len(loops)):
        return False
    return all(node[0] == "loop" for node in loops[:many]) and all(
        _heading(node) == _heading(loops[0]) for node in loops[1:many])


def _heading(node):
    _, counter, lows, highs, down, _ = node
    return (counter, down, sorted(lows), sorted(highs))


def _parted(many, groups):
    """The rows of so many numbers, of at least 1, that add up to a number."""
    if groups == 1:
        return [(many,)]
    return [(first, *rest) for first in range(1, many - groups + 2) for rest in _parted(many - first, groups - 1)]


def loop_orders(nest, path, many):
    """The ascending list of all orders of some loops in one another at which the nest agrees with itself."""
    node_at(nest, path)
    if not _are_in_one_another(nest, path, many):
        raise NoMove("interchange")
    check_single(nest)
    late = [(order, turned(nest, path, order)) for order in _orders_of(list(range(many)))]
    return [order for order, other in late if agree(nest, other)]


def free_outside(nest, path, many):
    """The first of these orders at which the outer loop is free for mixed rounds at all sizes, or None."""
    for order in loop_orders(nest, path, many):
        if is_free(turned(nest, path, order), path, "mixed"):
            return order
    return None


def turned(nest, path, order):
    """The nest with some loops in one another in another order."""
    found = nest
    standing = sorted(order)
    for depth, wanted in enumerate(order):
        at = standing.index(wanted)
        while at > depth:
            found = moved(found, ("interchange", (*path, *[0] * (at - 1))))
            standing = [*standing[:at - 1], standing[at], standing[at - 1], *standing[at + 1:]]
            at = at - 1
    return found


def _are_in_one_another(nest, path, many):
    """Whether there are so many loops, each of which but the last has the next one as its only child."""
    if not is_whole(many) or not 1 <= many <= MOST_TURNED:
        return False
    node = node_at(nest, path)
    for depth in range(many):
        if node[0] != "loop" or (depth < many - 1 and len(node[5]) != 1):
            return False
        node = node[5][0]
    return True


def _orders_of(things):
    """All orders of some ascending things, ascending."""
    if not things:
        return [()]
    return [(thing, *rest) for at, thing in enumerate(things) for rest in _orders_of([*things[:at], *things[at + 1:]])]
