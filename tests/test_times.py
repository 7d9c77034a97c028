"""`order_times` of [28]."""

import random
import unittest

from loopsheds.errors import Descending
from loopsheds.nests import node_at, statements
from loopsheds.reading import read_nest
from loopsheds.running import runs
from loopsheds.times import order_times
from tests.makers import families, neighbours, time_of
from tests.nesting import Maker, small_sizes

BLUR = read_nest("sizes n\nup i from 0 to n\n  f(i): t[i] = x[i]\n  when 1 <= i\n    g(i): b[i] = t[i], t[i - 1]\n")


class OrderTimesTest(unittest.TestCase):
    def test_example(self):
        self.assertEqual(order_times(BLUR), [(("0", 0), ("i", 0), ("0", 0), ("0", 0)),
                                             (("0", 0), ("i", 0), ("0", 1), ("0", 0))])

    def test_lengths(self):
        self.assertEqual(order_times(read_nest('sizes n\n')), [])
        self.assertEqual(order_times(read_nest('sizes n\nf(): t[] =\ng(): t[] =\n')), [(("0", 0),), (("0", 1),)])
        deep = read_nest('sizes n\nf(): t[] =\nup i from 0 to n\n  up j from i to n\n    g(i, j): t[] =\n')
        self.assertEqual(order_times(deep), [(("0", 0),) + (("0", 0),) * 4,
                                             (("0", 1), ("i", 0), ("0", 0), ("j", 0), ("0", 0))])

    def test_runs_go_in_the_order_of_times(self):
        rng = random.Random(28)
        seen = 0
        for turn in range(120):
            nest = (Maker(rng).nest, lambda: neighbours(rng), lambda: families(rng))[turn % 3]()
            try:
                times = order_times(nest)
            except Descending as error:
                self.check_descending(nest, error.path)
                continue
            seen += 1
            self.assertEqual(len({len(row) for row in times}), 1)
            for sizes in small_sizes(nest, 3):
                found = [time_of(nest, times, run, sizes) for run in runs(nest, sizes)]
                self.assertEqual(found, sorted(found))
                self.assertEqual(len({tuple(time) for time, _ in found}), len(found))
        self.assertGreater(seen, 30)

    def check_descending(self, nest, path):
        self.assertTrue(node_at(nest, path)[4])
        for at in range(1, len(path)):
            around = node_at(nest, path[:at])
            self.assertFalse(around[0] == "loop" and around[4])
        for row in statements(nest):
            if any(loop[3] for loop in row.loops):
                self.assertEqual(row.path[:len(path)], path)
                break

    def test_descending(self):
        nest = read_nest('sizes n\nf(): t[] =\nup i from 0 to n\n  g(i): t[] =\n  when 0 <= i\n    down j from 0 to n\n'
                         '      down k from 0 to n\n        h(i, j, k): t[] =\ndown i from 0 to n\n  k(i): t[] =\n')
        with self.assertRaises(Descending) as caught:
            order_times(nest)
        self.assertEqual(caught.exception.path, (1, 1, 0))


if __name__ == "__main__":
    unittest.main()
