"""Moves: nests made of nests, with the same names of runs."""

from loopsheds.agreeing import agree, where_agree
from loopsheds.faults import BadMove, BadNest, NoMove, TooLarge
from loopsheds.nests import Nest, node_at
from loopsheds.parts import is_atom_of, is_nest_name, is_nest_number
from loopsheds.rewriting import (body_around, count_accesses, different, loops_in, nodes_around, with_accesses,
                                 with_atom, with_nodes)
from loopsheds.systems import is_whole

MOST_EXPANDED = 3


def moved(nest, move):
    """The nest after a move."""
    check_move(move)
    kind = move[0]
    if kind == "contract":
        return _contracted(nest, move[1], move[2])
    path = move[1]
    node = node_at(nest, path)
    if kind == "expand":
        return _expanded(nest, path, node, move[2])
    action = ACTIONS[kind]
    more = move[2:]
    many, nodes = action(nest, path, node, *more)
    return _made(nest, nest.rooms, with_nodes(nest.body, path, many, nodes))


def check_move(move):
    """Refuse what is not a tuple of a kind and as many parts."""
    if not isinstance(move, tuple) or len(move) == 0 or not isinstance(move[0], str) or move[0] not in PARTS:
        raise BadMove("there is no such kind of moves")
    if len(move) != PARTS[move[0]]:
        raise BadMove("not as many parts as this kind of moves has")


def where_kept(nest, move):
    """The region of the sizes at which a nest agrees with the nest after a move."""
    return where_agree(nest, moved(nest, move))


def keeps_all(nest, move):
    """The Verdict on a nest and the nest after a move."""
    return agree(nest, moved(nest, move))


def followed(nest, *moves):
    """The nest after several moves, one after the other."""
    found = nest
    for move in moves:
        found = moved(found, move)
    return found


def _made(nest, rooms, body):
    """The nest with other rooms and another body, if they are not too large for one."""
    try:
        return Nest(nest.sizes, nest.given, rooms, nest.kept, body)
    except BadNest:
        raise TooLarge("a number or a row is too large for a nest") from None


def _check(fits, kind):
    """Refuse a move that cannot be done here."""
    if not fits:
        raise NoMove(kind)


def _neighbour(nest, path, kind):
    """The next node in the same body."""
    body = body_around(nest, path)
    _check(path[-1] + 1 < len(body), kind)
    return body[path[-1] + 1]


def _scope(nest, path):
    """The names in scope around the node at a path."""
    return [*nest.sizes, *[node[1] for node in nodes_around(nest, path) if node[0] == "loop"]]


def _swap(nest, path, node):
    return 2, (_neighbour(nest, path, "swap"), node)


def _reverse(nest, path, node):
    _check(node[0] == "loop", "reverse")
    return 1, ((*node[:4], not node[4], node[5]),)


def _shift(nest, path, node, by):
    _check(node[0] == "loop" and is_nest_number(by), "shift")
    _, counter, lows, highs, down, body = node
    late = with_atom(body, counter, (counter, -by))
    return 1, (("loop", counter, _greater(lows, by), _greater(highs, by), down, late),)


def _greater(atoms, by):
    return tuple([(name, shift + by) for name, shift in atoms])


def _split(nest, path, node, atom):
    _check(node[0] == "loop" and is_atom_of(atom, _scope(nest, path)), "split")
    _, counter, lows, highs, down, body = node
    name, shift = atom
    one = ("loop", counter, lows, different([*highs, atom]), down, body)
    other = ("loop", counter, different([*lows, (name, shift + 1)]), highs, down, body)
    return 1, ((other, one) if down else (one, other))


def _join(nest, path, node):
    _check(node[0] == "loop", "join")
    other = _neighbour(nest, path, "join")
    _check(other[0] == "loop" and other[1] == node[1] and other[4:] == node[4:], "join")
    _, counter, lows, highs, down, body = node
    if down:
        return 2, (("loop", counter, other[2], highs, down, body),)
    return 2, (("loop", counter, lows, other[3], down, body),)


def _part(nest, path, node, at):
    _check(node[0] == "loop" and is_whole(at) and 0 < at < len(node[5]), "part")
    return 1, ((*node[:5], node[5][:at]), (*node[:5], node[5][at:]))


def _fuse(nest, path, node):
    _check(node[0] == "loop", "fuse")
    other = _neighbour(nest, path, "fuse")
    _check(other[0] == "loop" and other[4] == node[4], "fuse")
    _check(sorted(other[2]) == sorted(node[2]) and sorted(other[3]) == sorted(node[3]), "fuse")
    _check(other[1] == node[1] or node[1] not in loops_in(other[5]), "fuse")
    body = with_atom(other[5], other[1], (node[1], 0))
    return 2, ((*node[:5], (*node[5], *body)),)


def _interchange(nest, path, node):
    _check(node[0] == "loop" and len(node[5]) == 1 and node[5][0][0] == "loop", "interchange")
    _, counter, lows, highs, down, (inner,) = node
    _, other, other_lows, other_highs, other_down, body = inner
    new_lows = _spread_out(other_lows, counter, lows)
    new_highs = _spread_out(other_highs, counter, highs)
    more_lows = [(other, -shift) for name, shift in other_highs if name == counter]
    more_highs = [(other, -shift) for name, shift in other_lows if name == counter]
    late = ("loop", counter, different([*lows, *more_lows]), different([*highs, *more_highs]), down, body)
    return 1, (("loop", other, new_lows, new_highs, other_down, (late,)),)


def _spread_out(atoms, counter, bounds):
    """The atoms, with the bounds plus the number in the place of the counter plus a number."""
    found = []
    for name, shift in atoms:
        if name == counter:
            found.extend(_greater(bounds, shift))
        else:
            found.append((name, shift))
    return different(found)


def _lift(nest, path, node):
    _check(node[0] == "loop" and len(node[5]) == 1 and node[5][0][0] == "test", "lift")
    _, differences, body = node[5][0]
    _check(not any(node[1] in entry[:2] for entry in differences), "lift")
    return 1, (("test", differences, ((*node[:5], body),)),)


def _sink(nest, path, node):
    _check(node[0] == "test" and len(node[2]) == 1 and node[2][0][0] == "loop", "sink")
    loop = node[2][0]
    return 1, ((*loop[:5], (("test", node[1], loop[5]),)),)


def _rename(nest, path, node, name):
    _check(node[0] == "loop" and is_nest_name(name), "rename")
    _check(name != node[1] and name not in _scope(nest, path) and name not in loops_in(node[5]), "rename")
    return 1, (("loop", name, *node[2:5], with_atom(node[5], node[1], (name, 0))),)


def _expanded(nest, path, node, array):
    """The nest in which each round of a loop has cells of its own of an array."""
    _check(node[0] == "loop" and isinstance(array, str) and array not in nest.kept, "expand")
    many = count_accesses((node,), array)
    _check(many > 0 and many == count_accesses(nest.body, array), "expand")
    _check(nest.arrays[array] <= MOST_EXPANDED, "expand")

    def change(access):
        return (array, (*access[1], (node[1], 0))) if access[0] == array else access
    rooms = {name: pairs for name, pairs in nest.rooms.items() if name != array}
    return _made(nest, rooms, with_nodes(nest.body, path, 1, with_accesses((node,), change)))


def _contracted(nest, array, at):
    """The nest in which an index of an array is left out."""
    _check(isinstance(array, str) and array not in nest.kept and count_accesses(nest.body, array) > 0, "contract")
    _check(is_whole(at) and 0 <= at < nest.arrays[array], "contract")

    def change(access):
        return (array, _left_out(access[1], at)) if access[0] == array else access
    rooms = {name: _left_out(pairs, at) if name == array else pairs for name, pairs in nest.rooms.items()}
    return _made(nest, rooms, with_accesses(nest.body, change))


def _left_out(row, at):
    return (*row[:at], *row[at + 1:])


PARTS = {"swap": 2, "reverse": 2, "shift": 3, "split": 3, "join": 2, "part": 3, "fuse": 2, "interchange": 2, "lift": 2,
         "sink": 2, "rename": 3, "expand": 3, "contract": 3}
ACTIONS = {"swap": _swap, "reverse": _reverse, "shift": _shift, "split": _split, "join": _join, "part": _part,
           "fuse": _fuse, "interchange": _interchange, "lift": _lift, "sink": _sink, "rename": _rename}
