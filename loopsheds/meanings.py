"""Meanings of runs, and first contents of cells."""


class Meaning:
    """Each run gives its own name."""

    def __init__(self, **weights):
        self.weights = dict(weights)

    def __call__(self, label, numbers, values):
        return self.value_of(label, numbers, values)

    def value_of(self, label, numbers, values):
        """The name of the run."""
        return (label, tuple(numbers))


class Weights(Meaning):
    """Each run gives the sum of its label's weight, its numbers and the values."""

    def __init__(self, **weights):
        Meaning.__init__(self, **weights)

    def __call__(self, label, numbers, values):
        return self.value_of(label, numbers, values)

    def value_of(self, label, numbers, values):
        """The sum; a label without a weight counts 1."""
        return self.weights.get(label, 1) + sum(numbers) + sum(values)


class Rests(Weights):
    """Each run gives the rest of such a sum by a positive integer."""

    def __init__(self, by, **weights):
        Weights.__init__(self, **weights)
        self.by = by

    def __call__(self, label, numbers, values):
        return self.value_of(label, numbers, values)

    def value_of(self, label, numbers, values):
        """The rest of the sum."""
        return super().value_of(label, numbers, values) % self.by


class Counted(Meaning):
    """Each run gives its own name; it is counted by its label."""

    def __init__(self, **weights):
        Meaning.__init__(self, **weights)
        self.counts = {}

    def __call__(self, label, numbers, values):
        return self.value_of(label, numbers, values)

    def value_of(self, label, numbers, values):
        """The value of the next base class, counted behind it: a value that fails is none."""
        worth = super().value_of(label, numbers, values)
        self.counts[label] = self.counts.get(label, 0) + 1
        return worth


class CountedWeights(Counted, Weights):
    """Each run gives the sum that Weights gives; it is counted by its label."""

    def __init__(self, **weights):
        Counted.__init__(self, **weights)

    def __call__(self, label, numbers, values):
        return self.value_of(label, numbers, values)

    def value_of(self, label, numbers, values):
        """The sum, counted."""
        return super().value_of(label, numbers, values)


def cell_names(array, numbers):
    """The cell itself as its first content."""
    return (array, tuple(numbers))


def constant(worth):
    """A function that gives the same first content for all cells."""
    def content(array, numbers):
        return worth
    return content


def numbered_cells():
    """A function that numbers the cells as they are asked for, and one that tells how many there were."""
    places = {}

    def content(array, numbers):
        return places.setdefault((array, tuple(numbers)), len(places))

    def many():
        return len(places)
    return content, many
