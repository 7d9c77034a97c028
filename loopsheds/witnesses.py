"""Runs at single sizes that witness what a table says."""

from loopsheds.regions import region_of


def least_point(table, names):
    """The lexicographically least solution of a table over these names, and "0"."""
    return {**region_of(tuple(names), [table]).first_point(), "0": 0}


def least_sizes(tables, sizes):
    """The lexicographically least sizes of some tables, or None."""
    return region_of(sizes, tables).first_point()


def sizes_at(point, sizes):
    """The sizes at a point."""
    return {size: point[size] for size in sizes}


def values_at(point, atoms):
    """The tuple of the values of atoms at a point."""
    return tuple([point[name] + shift for name, shift in atoms])
