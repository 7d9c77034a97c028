"""Differences that do not follow from what is known without them."""

from loopsheds.layouts import with_bounds
from loopsheds.tables import limit_of


def needed(table, differences):
    """As many of some different differences, which the table can keep, as do not follow from it and the others."""
    kept = [difference for difference in differences if not follows(table, difference)]
    for difference in list(kept):
        others = [other for other in kept if other != difference]
        if follows(with_bounds(table, others, {}), difference):
            kept = others
    return kept


def follows(table, difference):
    """Whether a difference holds at all solutions of a table."""
    left, right, limit = difference
    most = limit_of(table, left, right)
    return most is not None and most <= limit
