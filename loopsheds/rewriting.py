"""Bodies with other nodes in some places, and nodes with other atoms and accesses."""


def with_nodes(body, path, many, nodes):
    """The body with other nodes in the place of so many, the first of them at the path."""
    at = path[0]
    if len(path) == 1:
        return (*body[:at], *nodes, *body[at + many:])
    node = body[at]
    inner = (*node[:-1], with_nodes(node[-1], path[1:], many, nodes))
    return (*body[:at], inner, *body[at + 1:])


def nodes_around(nest, path):
    """The nodes on the way to the one at a path, from outside in."""
    found = []
    body = nest.body
    for at in path[:-1]:
        found.append(body[at])
        body = body[at][-1]
    return found


def body_around(nest, path):
    """The body in which the node at a path stands."""
    around = nodes_around(nest, path)
    return around[-1][-1] if around else nest.body


def loops_in(body):
    """The counters of all loops in a body."""
    found = []
    for node in body:
        if node[0] == "loop":
            found.append(node[1])
        if node[0] != "run":
            found.extend(loops_in(node[-1]))
    return found


def different(atoms):
    """The atoms as a tuple, each once, at its first place."""
    return tuple(list({atom: True for atom in atoms}))


def with_atom(body, counter, atom):
    """The body with an atom put for a counter everywhere."""
    found = []
    for node in body:
        if node[0] == "loop":
            lows = different(_put_in_row(node[2], counter, atom))
            highs = different(_put_in_row(node[3], counter, atom))
            found.append(("loop", node[1], lows, highs, node[4], with_atom(node[5], counter, atom)))
        elif node[0] == "test":
            differences = [_put_in_difference(entry, counter, atom) for entry in node[1]]
            found.append(("test", tuple(differences), with_atom(node[2], counter, atom)))
        else:
            found.append(_put_in_run(node, counter, atom))
    return tuple(found)


def _put_in_run(node, counter, atom):
    _, label, stamp, target, reads = node
    accesses = [(array, _put_in_row(atoms, counter, atom)) for array, atoms in (target, *reads)]
    return ("run", label, _put_in_row(stamp, counter, atom), accesses[0], tuple(accesses[1:]))


def _put_in_row(atoms, counter, atom):
    name, by = atom
    return tuple([(name, shift + by) if left == counter else (left, shift) for left, shift in atoms])


def _put_in_difference(difference, counter, atom):
    """The difference with an atom on the side of a counter; what it adds goes over to the limit."""
    left, right, limit = difference
    name, by = atom
    if left == counter:
        return (name, right, limit - by)
    if right == counter:
        return (left, name, limit + by)
    return difference


def with_accesses(body, change):
    """The body with what a function makes of each access in its place."""
    found = []
    for node in body:
        if node[0] == "run":
            _, label, stamp, target, reads = node
            found.append(("run", label, stamp, change(target), tuple([change(access) for access in reads])))
        else:
            found.append((*node[:-1], with_accesses(node[-1], change)))
    return tuple(found)


def count_accesses(body, array):
    """How many accesses to an array are in a body."""
    found = 0
    for node in body:
        if node[0] == "run":
            found = found + len([access for access in (node[3], *node[4]) if access[0] == array])
        else:
            found = found + count_accesses(node[-1], array)
    return found
