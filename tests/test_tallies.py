"""[27]: how many runs, rounds, cells and values there are."""

import itertools
import random
import unittest

from loopsheds.errors import NoLoop
from loopsheds.faults import NoNode, NoPlace
from loopsheds.nests import statements
from loopsheds.reading import read_nest
from loopsheds.tallies import all_work, cells, rounds, traffic, work
from tests.helpers import holds
from tests.makers import families, neighbours, rounds_of
from tests.nesting import Maker, history, paths_of
from tests.test_halos import values

BLUR = read_nest("sizes n\nup i from 0 to n\n  f(i): t[i] = x[i]\n  when 1 <= i\n    g(i): b[i] = t[i], t[i - 1]\n")


class TalliesTest(unittest.TestCase):
    def test_example(self):
        self.assertEqual([all_work(BLUR)({"n": 4}), cells(BLUR, "t")({"n": 4}), traffic(BLUR, (0,))({"n": 4})], [9, 5, 4])
        self.assertEqual([work(BLUR, 1)({"n": 4}), rounds(BLUR, (0,))({"n": 4}), cells(BLUR, "x")({"n": 4})], [4, 5, 5])

    def test_counts_are_polynomials(self):
        nest = read_nest('sizes n, m\nup i from 1 to n\n  up j from i to n\n    down k from 1 to m\n      f(i, j, k): a[i, j] =\n')
        told = work(nest, 0)
        self.assertEqual(told.names, ("n", "m"))
        self.assertEqual([told({"n": 1000, "m": 7}), told({"n": 0, "m": 7}), told({"n": -3, "m": 7})], [3503500, 0, 0])
        self.assertEqual(cells(nest, "a")({"n": 1000, "m": 7}), 500500)
        self.assertEqual(cells(nest, "a")({"n": 1000, "m": 0}), 0)
        self.assertEqual([rounds(nest, path)({"n": 10, "m": 2}) for path in ((0,), (0, 0), (0, 0, 0))], [10, 55, 110])

    def test_rounds_without_runs(self):
        nest = read_nest('sizes n\nup i from 0 to n\n  up j from 5 to 4\n    f(i, j): a[i] =\n  when i <= 2\n'
                         '    up j from i to 2\n      g(i, j): a[i] =\n')
        self.assertEqual([rounds(nest, path)({"n": 9}) for path in ((0,), (0, 0), (0, 1, 0))], [10, 0, 6])

    def test_arrays_without_an_index_and_rooms_alone(self):
        nest = read_nest('sizes n\nroom r[0 .. n]\nup i from 1 to n\n  f(i): t[] =\n')
        self.assertEqual([cells(nest, "t")({"n": n}) for n in (-1, 0, 1, 5)], [0, 0, 1, 1])
        self.assertEqual(list(cells(nest, "r")), [])
        empty = read_nest('sizes n\nroom r[0 .. n]\n')
        self.assertEqual((all_work(empty).rows, all_work(empty).names), ([], ("n",)))

    def test_each_read_of_each_run_counts(self):
        nest = read_nest('sizes n\nup i from 0 to n\n  f(i): t[i] = t[i - 1], t[i - 1], t[i]\n')
        self.assertEqual(traffic(nest, (0,))({"n": 5}), 10)
        inner = read_nest('sizes n\nup i from 0 to n\n  up j from 0 to n\n    f(i, j): t[i] = t[i], t[i - 1]\n')
        self.assertEqual([traffic(inner, path)({"n": 3}) for path in ((0,), (0, 0))], [12, 12])

    def test_runs_at_small_sizes(self):
        rng = random.Random(271)
        for turn in range(120):
            nest = (Maker(rng).nest, lambda: neighbours(rng), lambda: families(rng))[turn % 3]()
            high = 4 if len(nest.sizes) == 1 else 3
            many = len(statements(nest))
            loops = [path for path, node in paths_of(nest) if node[0] == "loop"]
            told = ([work(nest, place) for place in range(many)], all_work(nest),
                    {path: rounds(nest, path) for path in loops}, {path: traffic(nest, path) for path in loops},
                    {array: cells(nest, array) for array in nest.arrays})
            for count in [*told[0], told[1], *told[2].values(), *told[3].values(), *told[4].values()]:
                self.assertEqual(count.names, nest.sizes)
            for numbers in itertools.product(range(-1, high + 1), repeat=len(nest.sizes)):
                self.check(nest, dict(zip(nest.sizes, numbers)), *told)

    def check(self, nest, sizes, works, whole, all_rounds, goings, all_cells):
        if min(sizes.values()) < 0 or not holds(nest.given, sizes):
            for count in [*works, whole, *all_rounds.values(), *goings.values(), *all_cells.values()]:
                self.assertEqual(count(sizes), 0)
            return
        found = [run for run, _ in history(nest, sizes)[0]]
        self.assertEqual([count(sizes) for count in works],
                         [sum(run.place == place for run in found) for place in range(len(works))])
        self.assertEqual(whole(sizes), len(found))
        made = [path for path, _ in rounds_of(nest, sizes)]
        for path, count in all_rounds.items():
            self.assertEqual(count(sizes), made.count(path))
            self.assertEqual(goings[path](sizes), len(values(nest, path, sizes)))
        for array, count in all_cells.items():
            accessed = {cell for run in found for cell in (run.writes, *run.reads) if cell[0] == array}
            self.assertEqual(count(sizes), len(accessed))

    def test_errors(self):
        for place in (2, -1, True, "0", None):
            with self.assertRaises(NoPlace):
                work(BLUR, place)
        for array in ("zz", None, 0, True):
            with self.assertRaises(NoPlace):
                cells(BLUR, array)
        for call in (rounds, traffic):
            for path in ((), (1,), [0], (0, 0, 0), (True,)):
                with self.assertRaises(NoNode) as caught:
                    call(BLUR, path)
                self.assertEqual(caught.exception.path, path)
            for path in ((0, 0), (0, 1), (0, 1, 0)):
                with self.assertRaises(NoLoop) as caught:
                    call(BLUR, path)
                self.assertEqual(caught.exception.path, path)


if __name__ == "__main__":
    unittest.main()
