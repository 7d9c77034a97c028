"""What several tests use: points of a small box, and what holds there, found without the package."""

import itertools
import operator

OPERATORS = {"=": operator.eq, "!=": operator.ne, "<": operator.lt, "<=": operator.le, ">": operator.gt,
             ">=": operator.ge}


def holds(system, point):
    """Whether all differences hold at a point."""
    values = {**point, "0": 0}
    return all(values[left] - values[right] <= limit for left, right, limit in system)


def box(names, low, high):
    """All points over the names with values from low to high."""
    return [dict(zip(names, values)) for values in itertools.product(range(low, high + 1), repeat=len(names))]


def random_system(rng, names, many, low, high):
    """Some differences of the names and "0"."""
    return [(*rng.sample([*names, "0"], 2), rng.randint(low, high)) for _ in range(many)]


def meets(formula, point, reach):
    """Whether a formula holds at a point, where quantifiers go from -reach to reach, inner ones further."""
    word = formula[0]
    if word == "compare":
        one, other = [point.get(name, 0) + shift for name, shift in formula[2:]]
        return OPERATORS[formula[1]](one, other)
    if word == "not":
        return not meets(formula[1], point, reach)
    if word in ("and", "or"):
        return (all if word == "and" else any)(meets(part, point, reach) for part in formula[1])
    found = (meets(formula[2], {**point, formula[1]: value}, reach + 10) for value in range(-reach, reach + 1))
    return (all if word == "all" else any)(found)


def random_formula(rng, names, depth, quantifiers):
    """A formula over the names; with quantifiers at any place, if wanted."""
    draw = rng.random()
    if depth == 0 or draw < 0.1:
        atoms = [("0", rng.randint(-3, 3)) if rng.random() < 0.2 else (rng.choice(names), rng.randint(-2, 2))
                 for _ in range(2)]
        return ("compare", rng.choice(list(OPERATORS)), *atoms)
    if draw < 0.2:
        return ("not", random_formula(rng, names, depth - 1, quantifiers))
    if draw < 0.6 or not quantifiers:
        parts = [random_formula(rng, names, depth - 1, quantifiers) for _ in range(rng.randint(2, 3))]
        return (rng.choice(["and", "or"]), tuple(parts))
    return (rng.choice(["all", "some"]), rng.choice(names), random_formula(rng, names, depth - 1, quantifiers - 1))
