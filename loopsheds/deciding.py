"""The closed tables of the points at which a formula holds."""

from loopsheds.tables import table_of, without
from loopsheds.unions import absorbed, both_of, outside, simplified


def tables_where(formula, wanted):
    """Tables of the points at which a formula holds, or of the others if that is not wanted.

    It keeps what is still to be done itself, so that formulas of any depth can be decided.
    """
    waiting = [("ask", formula, wanted)]
    found = []
    while waiting:
        step, what, worth = waiting.pop()
        if step == "ask":
            _ask(waiting, found, what, worth)
        elif step == "row":
            parts = found[-what:]
            del found[-what:]
            found.append(_all_of(parts) if worth else _any_of(parts))
        else:
            found.append(_shadow(found.pop(), what, worth))
    return found[0]


def _ask(waiting, found, formula, wanted):
    """Note what is to be done for a formula, or give its tables straight."""
    word = formula[0]
    if word == "compare":
        found.append(_compared(formula, wanted))
    elif word == "not":
        waiting.append(("ask", formula[1], not wanted))
    elif word in ("and", "or"):
        waiting.append(("row", len(formula[1]), (word == "and") == wanted))
        waiting.extend([("ask", part, wanted) for part in formula[1]])
    else:
        is_some = word == "some"
        waiting.append(("quantifier", formula[1], is_some == wanted))
        waiting.append(("ask", formula[2], is_some))


def _compared(formula, wanted):
    """The tables of a comparison."""
    _, operator, (left, first), (right, second) = formula
    if not wanted:
        operator = _denied(operator)
    gap = second - first
    if operator == "!=":
        return [*_at_most(left, right, gap - 1), *_at_most(right, left, -gap - 1)]
    if operator == "=":
        return both_of(_at_most(left, right, gap), _at_most(right, left, -gap))
    if operator == "<":
        return _at_most(left, right, gap - 1)
    if operator == "<=":
        return _at_most(left, right, gap)
    if operator == ">":
        return _at_most(right, left, -gap - 1)
    return _at_most(right, left, -gap)


def _denied(operator):
    """The operator that holds just where the given one does not."""
    pairs = (("=", "!="), ("<", ">="), (">", "<="))
    for one, other in pairs:
        if operator == one:
            return other
        if operator == other:
            return one
    return operator


def _at_most(left, right, limit):
    """The tables of: left minus right is at most the limit."""
    if left != right:
        return [table_of([(left, right, limit)])]
    return [{}] if limit >= 0 else []


def _all_of(parts):
    """The tables of the points that are in all the unions; the small ones go first."""
    found = [{}]
    for part in sorted(parts, key=len):
        found = absorbed(both_of(found, part))
    return found


def _any_of(parts):
    return simplified([table for part in parts for table in part])


def _shadow(tables, name, is_wanted):
    """The tables of the points that some integer for a name completes, or of all others."""
    found = simplified([without(table, [name]) for table in tables])
    return found if is_wanted else outside(found)
