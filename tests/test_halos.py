"""[26]: how far values go between the rounds of a loop."""

import random
import unittest

from loopsheds.errors import BadNumber, NoLoop
from loopsheds.faults import NoNode
from loopsheds.halos import far_value, halo, where_near
from loopsheds.nests import statements
from loopsheds.reading import read_nest
from tests.makers import families, in_stretches, loops_around, neighbours
from tests.nesting import Maker, history, paths_of, small_sizes

BLUR = read_nest("sizes n\nup i from 0 to n\n  f(i): t[i] = x[i]\n  when 1 <= i\n    g(i): b[i] = t[i], t[i - 1]\n")


def values(nest, path, sizes):
    """All values that go from one round of a loop to another one: pairs of their rounds, a source and a reader."""
    rows = statements(nest)
    depth = loops_around(nest, path)
    found = []
    for run, sources in history(nest, sizes)[0]:
        for read, source in enumerate(sources):
            if source is None:
                continue
            if any(rows[one.place].path[:len(path)] != path for one in (run, source)):
                continue
            if run.counters[:depth] == source.counters[:depth] and run.counters[depth] != source.counters[depth]:
                found.append((run.counters[depth] - source.counters[depth], (source.place, source.counters),
                              (run.place, run.counters, read)))
    return found


class HaloTest(unittest.TestCase):
    def test_example(self):
        found = halo(BLUR, (0,))
        self.assertEqual((found.least, found.stretches, bool(found)), (1, [(1, 1)], True))
        self.assertEqual(where_near(BLUR, (0,), 0).spread("n"), [(0, 0)])
        self.assertEqual(far_value(BLUR, (0,), 0), ({"n": 1}, (0, (0,)), (1, (1,), 1)))
        self.assertIsNone(far_value(BLUR, (0,), 1))

    def test_no_value_and_no_end(self):
        none = read_nest('sizes n\nup i from 0 to n\n  f(i): t[i] = t[i], x[i - 1]\n')
        self.assertEqual((halo(none, (0,)).least, halo(none, (0,)).stretches, bool(halo(none, (0,)))), (0, [], True))
        endless = read_nest('sizes n\nup i from 0 to n\n  when i <= 0\n    f(i): t[] =\n  g(i): b[i] = t[]\n')
        found = halo(endless, (0,))
        self.assertEqual((found.least, found.stretches, bool(found)), (None, [(1, None)], False))
        self.assertEqual(where_near(endless, (0,), 5).spread("n"), [(0, 5)])
        self.assertEqual(far_value(endless, (0,), 5), ({"n": 6}, (0, (0,)), (1, (6,), 0)))

    def test_descending_loop(self):
        nest = read_nest('sizes n\ndown i from 0 to n\n  f(i): t[i] = t[i + 3]\n')
        self.assertEqual((halo(nest, (0,)).stretches, halo(nest, (0,)).least), ([(-3, -3)], 3))

    def test_values_of_other_entries_do_not_count(self):
        nest = read_nest('sizes n\nup i from 0 to n\n  up j from 0 to n\n    f(i, j): a[j] = a[j + 1]\n')
        self.assertEqual(halo(nest, (0,)).stretches, [(1, 1)])
        self.assertEqual(halo(nest, (0, 0)).stretches, [])

    def test_great_numbers(self):
        nest = read_nest('sizes n, m\ngiven m <= n\nup i from m to n\n  f(i): t[i] = t[i - 9999]\n')
        self.assertEqual((halo(nest, (0,)).stretches, halo(nest, (0,)).least), ([(9999, 9999)], 9999))
        self.assertEqual(where_near(nest, (0,), 9998).spread("n", "m"), [(0, 9998)])
        self.assertEqual(far_value(nest, (0,), 9998), ({"n": 9999, "m": 0}, (0, (0,)), (0, (9999,), 0)))

    def test_runs_at_small_sizes(self):
        rng = random.Random(26)
        for turn in range(100):
            nest = (Maker(rng).nest, lambda: neighbours(rng), lambda: families(rng))[turn % 3]()
            sizes = small_sizes(nest, 4 if len(nest.sizes) == 1 else 3)
            for path in [path for path, node in paths_of(nest) if node[0] == "loop"]:
                self.check(nest, path, sizes)

    def check(self, nest, path, sizes):
        found = halo(nest, path)
        all_values = [values(nest, path, one) for one in sizes]
        for row in all_values:
            self.assertTrue(all(in_stretches(found.stretches, value[0]) for value in row))
        self.assertFalse(in_stretches(found.stretches, 0))
        ends = [end for stretch in found.stretches for end in stretch]
        self.assertEqual(found.least, None if None in ends else max([0, *map(abs, ends)]))
        for reach in range(3):
            region = where_near(nest, path, reach)
            near = [all(abs(value[0]) <= reach for value in row) for row in all_values]
            self.assertEqual([one in region for one in sizes], near)
            self.assertNotIn({name: -1 for name in nest.sizes}, region)
            value = far_value(nest, path, reach)
            if value is None:
                self.assertTrue(all(near) and found.least is not None and found.least <= reach)
            else:
                told = {one[1:]: one[0] for one in values(nest, path, value[0])}
                self.assertGreater(abs(told[value[1:]]), reach)

    def test_errors(self):
        calls = (lambda path: halo(BLUR, path), lambda path: where_near(BLUR, path, -1),
                 lambda path: far_value(BLUR, path, -1))
        for call in calls:
            for path in ((), (1,), [0], (0, 0, 0), (True,), "0"):
                with self.assertRaises(NoNode) as caught:
                    call(path)
                self.assertEqual(caught.exception.path, path)
            for path in ((0, 0), (0, 1), (0, 1, 0)):
                with self.assertRaises(NoLoop) as caught:
                    call(path)
                self.assertEqual(caught.exception.path, path)
        for reach in (-1, True, "1", None):
            for call in (where_near, far_value):
                with self.assertRaises(BadNumber) as caught:
                    call(BLUR, (0,), reach)
                self.assertEqual(caught.exception.value, reach)


if __name__ == "__main__":
    unittest.main()
