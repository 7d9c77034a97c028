"""What the parts of a nest have to be."""

from loopsheds.faults import BadNest
from loopsheds.systems import is_whole

LETTERS = "abcdefghijklmnopqrstuvwxyz"
SIGNS = "abcdefghijklmnopqrstuvwxyz0123456789_"
RESERVED = ("sizes", "given", "room", "keep", "up", "down", "from", "to", "when", "and")
MOST_NUMBER = 9999
MOST_AROUND = 39
MOST_ROW = 12
MOST_STAMP = 8
MOST_READS = 6
MOST_INDEXES = 4
MOST_SIZES = 3


def is_nest_name(thing):
    """Whether something is a nest name."""
    if not isinstance(thing, str) or not 1 <= len(thing) <= 12 or thing in RESERVED:
        return False
    return thing[0] in LETTERS and all(sign in SIGNS for sign in thing)


def is_nest_number(thing):
    """Whether something is an integer of at most four digits."""
    return is_whole(thing) and -MOST_NUMBER <= thing <= MOST_NUMBER


def is_row(thing, least, most):
    """Whether something is a tuple of as many things."""
    return isinstance(thing, tuple) and least <= len(thing) <= most


def is_atom_of(thing, scope):
    """Whether something is an atom with "0" or a name in scope."""
    if not is_row(thing, 2, 2):
        return False
    name, shift = thing
    return _is_side_of(name, scope) and is_nest_number(shift)


def is_difference_of(thing, scope):
    """Whether something is a difference with sides that are "0" or in scope."""
    if not is_row(thing, 3, 3):
        return False
    left, right, limit = thing
    return _is_side_of(left, scope) and _is_side_of(right, scope) and left != right and is_nest_number(limit)


def _is_side_of(thing, scope):
    return isinstance(thing, str) and (thing == "0" or thing in scope)


def are_atoms(thing, scope, most):
    """Whether something is a tuple of at most so many atoms."""
    return is_row(thing, 0, most) and all(is_atom_of(atom, scope) for atom in thing)


def check(fits):
    """Refuse what does not fit."""
    if not fits:
        raise BadNest("the parts do not make a nest")


def check_different(row):
    """Refuse a row in which something stands twice."""
    check(len(set(row)) == len(row))


def check_heading(sizes, given, rooms, kept):
    """Refuse sizes, givens, rooms and kept arrays that are not as they have to be."""
    check(is_row(sizes, 1, MOST_SIZES) and all(is_nest_name(name) for name in sizes))
    check_different(sizes)
    check(is_row(given, 0, MOST_ROW) and all(is_difference_of(entry, sizes) for entry in given))
    check(isinstance(rooms, dict))
    for array, pairs in rooms.items():
        check(is_nest_name(array) and is_row(pairs, 0, MOST_INDEXES))
        check(all(is_row(pair, 2, 2) and are_atoms(pair, sizes, 2) for pair in pairs))
    check(isinstance(kept, tuple) and all(is_nest_name(array) for array in kept))
    check_different(kept)


def numbers_of(facts):
    """The ascending dict from the names in some facts to the numbers that are told of them; refuse two of one name.

    A fact is a pair of a name and what is told of it.
    """
    found = {}
    for name, many in facts:
        check(found.setdefault(name, many) == many)
    return {name: found[name] for name in sorted(found)}


def check_body(body, scope, around):
    """Refuse a body that is not as it has to be in a scope, behind so many nodes around it."""
    check(isinstance(body, tuple))
    check(not body or around <= MOST_AROUND)
    for node in body:
        check(isinstance(node, tuple) and len(node) > 0 and isinstance(node[0], str))
        if node[0] == "loop":
            _check_loop(node, scope, around)
        elif node[0] == "test":
            _check_test(node, scope, around)
        else:
            check(node[0] == "run")
            _check_run(node, scope)


def _check_loop(node, scope, around):
    """Refuse a loop that is not as it has to be."""
    check(len(node) == 6)
    _, counter, lows, highs, down, body = node
    check(is_nest_name(counter) and counter not in scope and isinstance(down, bool))
    for row in (lows, highs):
        check(is_row(row, 1, MOST_ROW) and are_atoms(row, scope, MOST_ROW))
        check_different(row)
    check(body != ())
    check_body(body, (*scope, counter), around + 1)


def _check_test(node, scope, around):
    """Refuse a test that is not as it has to be."""
    check(len(node) == 3)
    _, differences, body = node
    check(is_row(differences, 1, MOST_ROW) and all(is_difference_of(entry, scope) for entry in differences))
    check_different(differences)
    check(body != ())
    check_body(body, scope, around + 1)


def _check_run(node, scope):
    """Refuse a statement that is not as it has to be."""
    check(len(node) == 5)
    _, label, stamp, target, reads = node
    check(is_nest_name(label) and are_atoms(stamp, scope, MOST_STAMP))
    check(is_row(reads, 0, MOST_READS))
    for access in (target, *reads):
        check(is_row(access, 2, 2) and is_nest_name(access[0]) and are_atoms(access[1], scope, MOST_INDEXES))
