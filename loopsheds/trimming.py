"""Nests without what is needless in them."""

from loopsheds.halos import check_is_loop
from loopsheds.layouts import Layout, sizes_of, with_bounds
from loopsheds.needed import follows, needed
from loopsheds.nests import Nest, bounds_of, node_at, sizes_system
from loopsheds.regions import region_of
from loopsheds.rewriting import different, nodes_around, with_atom
from loopsheds.tables import table_of
from loopsheds.unions import simplified, subtracted


def trim(nest, /):
    """The nest with the same runs in which no node, bound and difference is needless."""
    return with_trimmed(nest, nest.body)


def with_trimmed(nest, body):
    """The nest with another body in the place of its own, without what is needless in it.

    The body alone may be too deep for a nest.
    """
    context = table_of(sizes_system(nest))
    late = () if context is None else _trimmed(body, context)
    return Nest(nest.sizes, nest.given, nest.rooms, nest.kept, late)


def _trimmed(body, context):
    """What is left of a body where a table holds."""
    found = []
    for node in body:
        if node[0] == "run":
            found.append(node)
        elif node[0] == "test":
            found.extend(_trimmed_test(node, context))
        else:
            found.extend(_trimmed_loop(node, context))
    return tuple(found)


def _trimmed_test(node, context):
    """The nodes that are left of a test."""
    _, differences, body = node
    table = with_bounds(context, differences, {})
    inner = () if table is None else _trimmed(body, table)
    kept = needed(context, different(differences)) if inner else []
    return (("test", tuple(kept), inner),) if kept else inner


def _trimmed_loop(node, context):
    """The nodes that are left of a loop."""
    _, counter, lows, highs, down, body = node
    table = with_bounds(context, bounds_of([node]), {})
    if table is None:
        return ()
    lows, highs = _needed_bounds(context, counter, lows, highs)
    if lows == highs and len(lows) == 1:
        return _trimmed(with_atom(body, counter, lows[0]), context)
    inner = _trimmed(body, table)
    return (("loop", counter, lows, highs, down, inner),) if inner else ()


def _needed_bounds(context, counter, lows, highs):
    """The lows and highs of a loop that do not follow from the others; at least one of each stays.

    Atoms that are lows and highs go last, as a loop from an atom to itself is none.
    """
    for low in [*[low for low in lows if low not in highs], *[low for low in lows if low in highs]]:
        others = [other for other in lows if other != low]
        if others and follows(_with_bounds(context, counter, others, highs), (low[0], counter, -low[1])):
            lows = tuple(others)
    for high in [*[high for high in highs if high not in lows], *[high for high in highs if high in lows]]:
        others = [other for other in highs if other != high]
        if others and follows(_with_bounds(context, counter, lows, others), (counter, high[0], high[1])):
            highs = tuple(others)
    return lows, highs


def _with_bounds(context, counter, lows, highs):
    return with_bounds(context, bounds_of([("loop", counter, lows, highs, False, ())]), {})


def empty_rounds(nest, path, /):
    """The region of all rounds of a loop without a run."""
    check_is_loop(nest, path)
    around = [*nodes_around(nest, path), node_at(nest, path)]
    names = (*[node[1] for node in around if node[0] == "loop"], *nest.sizes)
    table = table_of([*bounds_of(around), *sizes_system(nest)])
    if table is None:
        return region_of(names, [])
    layout = Layout(nest)
    inside = [layout.table_at(place) for place, row in enumerate(layout.rows) if row.path[:len(path)] == path]
    full = sizes_of([other for other in inside if other is not None], names)
    return region_of(names, simplified(subtracted([table], full)))
