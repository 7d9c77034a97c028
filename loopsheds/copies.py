"""Arrays of which each round of a loop has a copy of its own."""

from loopsheds.agreeing import where_unlike
from loopsheds.doubling import check_single
from loopsheds.faults import NoPlace
from loopsheds.freedom import check_loop, where_bound
from loopsheds.layouts import all_sizes
from loopsheds.moves import MOST_EXPANDED, followed
from loopsheds.nests import node_at
from loopsheds.rewriting import count_accesses
from loopsheds.rows import first_right, shows_first, shows_wrong, subsets_of
from loopsheds.systems import copied


class Copies:
    """The first set of arrays whose copies are enough at all sizes, and sizes at which each set in front is not."""

    def __init__(self, chosen, against):
        self.chosen = copied(chosen)
        self.against = copied(against)

    def shows(self, nest, path):
        """Whether the set is enough, and all sets in front of it are not, as told."""
        return shows_first(Copying(nest, path), self.chosen, self.against)


class Bound:
    """Sizes at which each set of arrays is not enough."""

    def __init__(self, against):
        self.against = copied(against)

    def shows(self, nest, path):
        """Whether all sets of arrays are not enough, as told."""
        question = Copying(nest, path)
        return shows_wrong(question, question.rows, self.against)


class Copying:
    """The question of which arrays each round of a loop needs a copy."""

    def __init__(self, nest, path):
        self.nest = nest
        self.path = path
        self.rows = subsets_of(own_arrays(nest, path))

    def wrong_at(self, arrays):
        """The region of the sizes at which copies of some arrays are not enough."""
        return _where_short(self.nest, self.path, arrays)


def own_arrays(nest, path):
    """The ascending list of the arrays of which each round of a loop can have a copy."""
    check_loop(nest, path)
    check_single(nest)
    loop = node_at(nest, path)
    found = []
    for array, many in nest.arrays.items():
        inside = count_accesses((loop,), array)
        is_own = inside > 0 and inside == count_accesses(nest.body, array)
        if is_own and many <= MOST_EXPANDED and array not in nest.kept:
            found.append(array)
    return found


def where_copied(nest, path, arrays):
    """The region of the sizes at which a loop is free with copies of some arrays, and the nest agrees."""
    own = own_arrays(nest, path)
    if not isinstance(arrays, tuple) or not all(isinstance(array, str) and array in own for array in arrays):
        raise NoPlace("not a tuple of arrays that the loop has alone")
    if list(arrays) != sorted(set(arrays)):
        raise NoPlace("the arrays do not ascend")
    return all_sizes(nest) - _where_short(nest, path, arrays)


def fewest_copies(nest, path):
    """The Copies with the first set of arrays that is enough at all sizes, or a Bound."""
    chosen, against = first_right(Copying(nest, path))
    return Bound(against) if chosen is None else Copies(chosen, against)


def _where_short(nest, path, arrays):
    moves = [("expand", path, array) for array in arrays]
    late = followed(nest, *moves)
    return where_unlike(nest, late) | where_bound(late, path, "mixed")
