"""Cuts between the children of a loop, at which all hands wait."""

from loopsheds.agreeing import where_unlike
from loopsheds.doubling import check_single
from loopsheds.faults import NoMove
from loopsheds.freedom import check_loop, where_bound
from loopsheds.layouts import all_sizes
from loopsheds.moves import followed
from loopsheds.nests import node_at
from loopsheds.rows import first_right, shows_first, shows_wrong, subsets_of
from loopsheds.systems import copied, is_whole


class Cuts:
    """The first row of cuts that is right at all sizes, and sizes at which each row in front of it is wrong."""

    def __init__(self, chosen, against):
        self.chosen = copied(chosen)
        self.against = copied(against)

    def shows(self, nest, path):
        """Whether the cuts are right, and all rows in front of them are wrong, as told."""
        return shows_first(Parting(nest, path), self.chosen, self.against)


class Uncut:
    """Sizes at which each row of cuts is wrong."""

    def __init__(self, against):
        self.against = copied(against)

    def shows(self, nest, path):
        """Whether all rows of cuts are wrong, as told."""
        question = Parting(nest, path)
        return shows_wrong(question, question.rows, self.against)


class Parting:
    """The question where the children of a loop have to be cut apart."""

    def __init__(self, nest, path):
        check_loop(nest, path)
        check_single(nest)
        self.nest = nest
        self.path = path
        self.rows = subsets_of(list(range(1, len(node_at(nest, path)[5]))))

    def wrong_at(self, cuts):
        """The region of the sizes at which cuts are wrong."""
        return _where_wrong(self.nest, self.path, cuts)


def where_cut(nest, path, cuts):
    """The region of the sizes at which cuts of a loop are right."""
    check_loop(nest, path)
    check_single(nest)
    if not _are_cuts(cuts, len(node_at(nest, path)[5])):
        raise NoMove("cut")
    return all_sizes(nest) - _where_wrong(nest, path, cuts)


def fewest_cuts(nest, path):
    """The Cuts with the first row of cuts that is right at all sizes, or an Uncut."""
    chosen, against = first_right(Parting(nest, path))
    return Uncut(against) if chosen is None else Cuts(chosen, against)


def _are_cuts(cuts, many):
    """Whether something is a row of cuts of a loop with so many children."""
    if not isinstance(cuts, tuple) or not all(is_whole(cut) and 0 < cut < many for cut in cuts):
        return False
    return list(cuts) == sorted(set(cuts))


def _where_wrong(nest, path, cuts):
    parts = [("part", path, cut) for cut in reversed(list(cuts))]
    late = followed(nest, *parts)
    found = where_unlike(nest, late)
    for at in range(len(cuts) + 1):
        found = found | where_bound(late, (*path[:-1], path[-1] + at), "mixed")
    return found
