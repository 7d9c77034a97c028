"""Evidence that a loop is free, or that an order of its rounds changes something."""

from loopsheds.choosing import Story, blocks_of, changing_order
from loopsheds.freedom import check_question, where_bound
from loopsheds.running import are_sizes
from loopsheds.systems import copied, is_whole


class Free:
    """The evidence that a loop is free at all sizes."""

    def shows(self, nest, path, kind):
        """Whether the loop is free at all sizes."""
        return is_free(nest, path, kind)


class Mixup:
    """The evidence that a loop is not free: sizes, an entry and an order of its rounds that changes something."""

    def __init__(self, sizes, entry, order):
        self.sizes = copied(sizes)
        self.entry = copied(entry)
        self.order = copied(order)

    def shows(self, nest, path, kind):
        """Whether the order is one of the entry's, at sizes of the nest, and changes something."""
        check_question(nest, path, kind)
        if not are_sizes(nest, self.sizes):
            return False
        story = Story(nest, path, self.sizes)
        if not isinstance(self.entry, tuple) or not all(is_whole(value) for value in self.entry):
            return False
        if not isinstance(self.order, list) or not all(is_whole(number) for number in self.order):
            return False
        rounds = story.entries.get(self.entry)
        if rounds is None:
            return False
        right = list(rounds) if kind == "whole" else blocks_of(rounds, list(rounds))
        if sorted(self.order) != sorted(right):
            return False
        return story.changed_by(self.entry, self.all_turns(rounds, kind))

    def all_turns(self, rounds, kind):
        """The order, with a number for each run of a round."""
        return blocks_of(rounds, self.order) if kind == "whole" else list(self.order)


def is_free(nest, path, kind):
    """Whether a loop is free at all sizes."""
    return not where_bound(nest, path, kind)


def judge_order(nest, path, kind):
    """A Free, or a Mixup at the least sizes at which a loop is not free."""
    sizes = where_bound(nest, path, kind).first_point()
    if sizes is None:
        return Free()
    entry, order = changing_order(Story(nest, path, sizes), kind)
    return Mixup(sizes, entry, order)
