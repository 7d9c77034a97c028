"""Texts of nests, written."""

from loopsheds.nests import statements


def write_nest(nest):
    """The text of a nest, from which it is read again."""
    lines = [f"sizes {', '.join(nest.sizes)}"]
    lines.extend([f"given {_difference(entry)}" for entry in nest.given])
    rooms = nest.rooms
    for array in sorted(rooms):
        pairs = [f"{_atom(low)} .. {_atom(high)}" for low, high in rooms[array]]
        lines.append(f"room {array}[{', '.join(pairs)}]")
    if nest.kept:
        lines.append(f"keep {', '.join(nest.kept)}")
    lines.extend([line for line, _ in _lines_of(nest.body, "")])
    return "".join([line + "\n" for line in lines])


def write_numbered(nest):
    """The lines of the body, each behind the place of its statement or behind blanks."""
    places = list(range(len(statements(nest))))
    found = []
    for line, is_run in _lines_of(nest.body, ""):
        mark = str(places.pop(0)) if is_run else ""
        found.append(f"{mark.rjust(4)} {line}")
    return found


def _lines_of(body, indent):
    """The lines of a body, each with whether it is a statement."""
    found = []
    for node in body:
        if node[0] == "run":
            found.append((indent + _run(node), True))
        else:
            found.append((indent + _head(node), False))
            found.extend(_lines_of(node[-1], indent + "  "))
    return found


def _head(node):
    """The line of a loop or a test."""
    if node[0] == "test":
        return f"when {' and '.join([_difference(entry) for entry in node[1]])}"
    word = "down" if node[4] else "up"
    return f"{word} {node[1]} from {_atoms(node[2])} to {_atoms(node[3])}"


def _run(node):
    """The line of a statement."""
    _, label, stamp, target, reads = node
    line = f"{label}({_atoms(stamp)}): {_access(target)} ="
    if not reads:
        return line
    return f"{line} {', '.join([_access(access) for access in reads])}"


def _access(access):
    array, atoms = access
    return f"{array}[{_atoms(atoms)}]"


def _atoms(atoms):
    return ", ".join([_atom(atom) for atom in atoms])


def _difference(difference):
    left, right, limit = difference
    return f"{left} <= {_atom((right, limit))}"


def _atom(atom):
    name, shift = atom
    if name == "0":
        return str(shift)
    if shift == 0:
        return name
    return f"{name} + {shift}" if shift > 0 else f"{name} - {-shift}"
