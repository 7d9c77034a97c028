"""The closed tables of the points at which a formula holds."""

from loopsheds.tables import table_of, without
from loopsheds.unions import absorbed, both_of, outside, simplified


def tables_where(formula, wanted):
    """Tables of the points at which a formula holds, or of the others if that is not wanted.

    It keeps what is still to be done itself, so that formulas of any depth can be decided.
    """
    waiting = [("ask", formula, wanted)]
    found = []
    while waiting:
        step, what, worth = waiting.pop()
        if step == "ask":
            _ask(waiting, found, what, worth)
            continue
        many, names = what
        parts = found[-many:]
        del found[-many:]
        tables = _completed(parts, names) if step == "all" else _any_of(parts)
        found.append(tables if worth else outside(tables))
    return found[0]


def _ask(waiting, found, formula, wanted):
    """Give the tables of a comparison straight; note what is to be done for any other formula.

    Behind its parts stands how many they are and which names go: "all" takes what the parts have in
    common, "any" what is in one of them. `all` is `some` of what is denied, and then what is outside.
    """
    word = formula[0]
    if word == "compare":
        found.append(_compared(formula, wanted))
    elif word == "not":
        waiting.append(("ask", formula[1], not wanted))
    elif word in ("and", "or"):
        is_all = (word == "and") == wanted
        parts = _parts(formula, wanted, is_all)
        waiting.append(("all" if is_all else "any", (len(parts), []), True))
        waiting.extend([("ask", part, worth) for part, worth in parts])
    else:
        is_some = word == "some"
        names, inner = _block(formula)
        parts = _parts(inner, is_some, True)
        waiting.append(("all", (len(parts), names), is_some == wanted))
        waiting.extend([("ask", part, worth) for part, worth in parts])


def _parts(formula, wanted, is_all):
    """The formulas, each with whether it is wanted, that have to be as wanted: all of them, or just one."""
    found = []
    waiting = [(formula, wanted)]
    while waiting:
        part, worth = waiting.pop()
        if part[0] == "not":
            waiting.append((part[1], not worth))
        elif part[0] == ("and" if worth == is_all else "or"):
            waiting.extend([(inner, worth) for inner in part[1]])
        else:
            found.append((part, worth))
    return found


def _block(formula):
    """The names of quantifiers of one kind, one behind the other, and the formula behind them."""
    names = []
    inner = formula
    while inner[0] == formula[0]:
        names.append(inner[1])
        inner = inner[2]
    return names, inner


def _compared(formula, wanted):
    """The tables of a comparison."""
    _, operator, (left, first), (right, second) = formula
    if not wanted:
        operator = _denied(operator)
    gap = second - first
    if operator == "!=":
        return [*_at_most(left, right, gap - 1), *_at_most(right, left, -gap - 1)]
    if operator == "=":
        return both_of(_at_most(left, right, gap), _at_most(right, left, -gap))
    if operator == "<":
        return _at_most(left, right, gap - 1)
    if operator == "<=":
        return _at_most(left, right, gap)
    if operator == ">":
        return _at_most(right, left, -gap - 1)
    return _at_most(right, left, -gap)


def _denied(operator):
    """The operator that holds just where the given one does not."""
    pairs = (("=", "!="), ("<", ">="), (">", "<="))
    for one, other in pairs:
        if operator == one:
            return other
        if operator == other:
            return one
    return operator


def _at_most(left, right, limit):
    """The tables of: left minus right is at most the limit."""
    if left != right:
        return [table_of([(left, right, limit)])]
    return [{}] if limit >= 0 else []


def _all_of(parts):
    """The tables of the points that are in all the unions; the small ones go first."""
    found = [{}]
    for part in sorted(parts, key=len):
        found = absorbed(both_of(found, part))
    return found


def _any_of(parts):
    return simplified([table for part in parts for table in part])


def _completed(parts, names):
    """The tables of the points that some integers for these names complete to points of all the unions.

    Each name goes as soon as the unions that have it are one, and those that make the fewest tables go first.
    """
    rest = parts
    left = names
    while left:
        costs = [_cost(rest, name) for name in left]
        name = left[costs.index(min(costs))]
        having = [part for part in rest if _mentions(part, name)]
        shadow = simplified([without(table, [name]) for table in _all_of(having)])
        rest = [*[part for part in rest if not _mentions(part, name)], shadow]
        left = [other for other in left if other != name]
    return _all_of(rest)


def _cost(parts, name):
    """At most how many tables it takes to make one union of those that have a name."""
    found = 1
    for part in parts:
        if _mentions(part, name):
            found = found * len(part)
    return found


def _mentions(tables, name):
    return any(name in table for table in tables)
