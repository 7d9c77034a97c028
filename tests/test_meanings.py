"""[15]: meanings, weights, first contents, and play with them."""

import random
import unittest

from loopsheds import meanings
from loopsheds.meanings import (Counted, CountedWeights, Meaning, Rests, Weights, cell_names, constant,
                                numbered_cells)
from loopsheds.reading import read_nest
from loopsheds.running import count_steps, endings, play, runs, trace
from tests.nesting import Maker, small_sizes

WALK = read_nest('sizes n\nkeep a\nup i from 1 to n\n  f(i): a[i] = a[i - 1]\n')
CLASSES = (Meaning, Weights, Counted, CountedWeights, Rests)


class MeaningsTest(unittest.TestCase):
    def test_example(self):
        found = [trace(WALK, {'n': 2}), endings(WALK, {'n': 1}), count_steps(WALK, {'n': 2}),
                 play(WALK, {'n': 2}, Weights(f=2), constant(5)).cells]
        self.assertEqual(found, [
            [(('f', (1,)), (('first', 'a', (0,)),)), (('f', (2,)), (('run', 'f', (1,)),))],
            {('a', (1,)): ('f', (1,))}, 4, {('a', (1,)): 8, ('a', (2,)): 12}])

    def test_classes(self):
        self.assertEqual(Weights.__bases__, (Meaning,))
        self.assertEqual(Counted.__bases__, (Meaning,))
        self.assertEqual(CountedWeights.__bases__, (Counted, Weights))
        self.assertEqual(Rests.__bases__, (Weights,))
        self.assertEqual(Meaning.__bases__, (object,))
        for made in CLASSES:
            self.assertIn("value_of", vars(made))
            self.assertIn("__call__", vars(made))
            self.assertEqual(made.__module__, meanings.__name__)

    def test_values(self):
        self.assertEqual(Meaning()("f", (1, 2), [3]), ("f", (1, 2)))
        self.assertEqual(Counted(f=3)("f", (), []), ("f", ()))
        self.assertEqual(Weights()("f", (1, 2), [3, -10]), -3)
        self.assertEqual(Weights(g=7)("f", (), []), 1)
        self.assertEqual(Weights(g=7, f=-4)("f", (1,), [2]), -1)
        self.assertEqual(Rests(5, f=9)("f", (1,), [2]), 2)
        self.assertEqual(Rests(5, f=-9)("f", (), []), 1)
        self.assertEqual(Rests(1)("f", (3,), [4]), 0)
        self.assertEqual(Rests(by=4, f=1)("f", (), [2]), 3)
        self.assertEqual(CountedWeights(f=2)("f", (1,), [3]), 6)
        for made in (Meaning(f=1, by=2), Weights(f=1, by=2), Counted(f=1, by=2), CountedWeights(f=1, by=2)):
            self.assertEqual(made.weights, {"f": 1, "by": 2})
        self.assertEqual(Rests(3, f=1).weights, {"f": 1})

    def test_call_calls_value_of(self):
        for made in CLASSES:
            class Mine(made):
                def value_of(self, label, numbers, values):
                    return [label, numbers, values]
            mine = Mine(3) if made is Rests else Mine()
            self.assertEqual(mine("f", (1,), [2]), ["f", (1,), [2]])
            other = made(3) if made is Rests else made()
            self.assertEqual(other.value_of("f", (1,), [1]), other("f", (1,), [1]))

    def test_counts(self):
        for made in (Counted(), CountedWeights(f=3)):
            self.assertEqual(made.counts, {})
            made("f", (1,), [])
            made.value_of("f", (2,), [])
            made("g", (), [])
            self.assertEqual(made.counts, {"f": 2, "g": 1})
        spoilt = CountedWeights(f=3)
        with self.assertRaises(TypeError):
            spoilt("f", (1,), ["x"])
        self.assertEqual(spoilt.counts, {})
        self.assertEqual(Counted().counts, {})
        self.assertFalse(hasattr(Weights(), "counts"))

    def test_first_contents(self):
        self.assertEqual(cell_names("a", (1, 2)), ("a", (1, 2)))
        worth = ["w"]
        self.assertIs(constant(worth)("a", ()), worth)
        number, many = numbered_cells()
        self.assertEqual(many(), 0)
        self.assertEqual([number("a", (1,)), number("b", ()), number("a", (1,)), number("a", (0,))], [0, 1, 0, 2])
        self.assertEqual(many(), 3)
        other, none = numbered_cells()
        self.assertEqual([other("z", ()), none(), many()], [0, 1, 3])

    def test_plays(self):
        told = play(WALK, {'n': 2}, Meaning(), cell_names)
        self.assertEqual(told.log, [(('f', (1,)), ('f', (1,))), (('f', (2,)), ('f', (2,)))])
        self.assertEqual(told.cells, {('a', (1,)): ('f', (1,)), ('a', (2,)): ('f', (2,))})
        number, many = numbered_cells()
        reads = read_nest('sizes n\nup i from 1 to n\n  f(i): t[] = a[i], a[i + 1], t[]\n')
        self.assertEqual(play(reads, {'n': 2}, Rests(10, f=0), number).log, [(('f', (1,)), 4), (('f', (2,)), 0)])
        self.assertEqual(many(), 4)

    def test_plays_of_many_nests(self):
        for seed in range(60):
            nest = Maker(random.Random(seed)).nest()
            for sizes in small_sizes(nest, 3):
                counted = CountedWeights(f=2, g=-3)
                told = play(nest, sizes, counted, constant(2))
                self.assertEqual(told.log, play(nest, sizes, Weights(f=2, g=-3), constant(2)).log)
                many = {}
                cells = {}
                for run, (name, worth) in zip(runs(nest, sizes), told.log, strict=True):
                    many[run.label] = many.get(run.label, 0) + 1
                    weight = {"f": 2, "g": -3}.get(run.label, 1)
                    self.assertEqual(name, run.name)
                    self.assertEqual(worth, weight + sum(run.numbers) + sum(cells.get(cell, 2) for cell in run.reads))
                    cells[run.writes] = worth
                self.assertEqual(counted.counts, many)
                self.assertEqual(told.cells, cells)
                self.assertEqual(list(told.cells), sorted(cells))

    def test_a_meaning_is_asked_once_a_run(self):
        asked = []

        def meaning(label, numbers, values):
            asked.append((label, numbers, values))
            return len(asked)
        play(WALK, {'n': 3}, meaning, constant(7))
        self.assertEqual(asked, [("f", (1,), [7]), ("f", (2,), [1]), ("f", (3,), [2])])
        self.assertEqual(len({id(values) for _, _, values in asked}), 3)


if __name__ == "__main__":
    unittest.main()
