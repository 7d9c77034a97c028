"""Rows of which the first one that is wrong nowhere is looked for, and evidence of that.

A question has its `rows`, in order, and a method `wrong_at` that gives the region of the sizes at which a row is wrong.
"""

from loopsheds.systems import is_whole


def subsets_of(things):
    """All subsets of some ascending things, as ascending tuples, by their number and then as tuples."""
    return [row for many in range(len(things) + 1) for row in _subsets(things, many)]


def _subsets(things, many):
    """The subsets with so many of the things."""
    if many == 0:
        return [()]
    return [(thing, *rest) for at, thing in enumerate(things) for rest in _subsets(things[at + 1:], many - 1)]


def first_right(question):
    """The first row that is wrong nowhere, or None, and the least sizes at which each row in front is wrong."""
    against = {}
    for row in question.rows:
        sizes = question.wrong_at(row).first_point()
        if sizes is None:
            return row, against
        against[row] = sizes
    return None, against


def shows_first(question, chosen, against):
    """Whether a chosen row is wrong nowhere, and each row in front is wrong at the sizes told of it, no other told."""
    if not _is_row_of(chosen, question.rows):
        return False
    ahead = question.rows[:question.rows.index(chosen)]
    return shows_wrong(question, ahead, against) and not question.wrong_at(chosen)


def shows_wrong(question, rows, against):
    """Whether each of some rows is wrong at the sizes that are told of it, and nothing is told of others."""
    if not isinstance(against, dict) or len(against) != len(rows):
        return False
    if not all(_is_row_of(row, rows) for row in against):
        return False
    return all(_is_point_of(against[row], question.wrong_at(row)) for row in rows)


def _is_row_of(thing, rows):
    """Whether something is one of the rows; a boolean is no number in it."""
    if not isinstance(thing, tuple) or not all(is_whole(part) or isinstance(part, str) for part in thing):
        return False
    return thing in rows


def _is_point_of(thing, region):
    """Whether something is a dict from exactly the names of a region to integers, and a point of it."""
    if not isinstance(thing, dict) or len(thing) != len(region.names):
        return False
    return all(name in thing and is_whole(thing[name]) for name in region.names) and thing in region
