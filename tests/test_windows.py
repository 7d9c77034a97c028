"""[24]: windows of arrays, distances between cells, and clashes."""

import random
import unittest

from loopsheds.errors import BadNumber
from loopsheds.faults import NoPlace
from loopsheds.nests import Nest
from loopsheds.reading import read_nest
from loopsheds.windows import clash, window
from tests.makers import families, in_stretches, neighbours
from tests.nesting import Maker, history, small_sizes

BLUR = read_nest("sizes n\nup i from 0 to n\n  f(i): t[i] = x[i]\n  when 1 <= i\n    g(i): b[i] = t[i], t[i - 1]\n")


def told(nest, array, position):
    found = window(nest, array, position)
    return found.least, found.why, found.stretches, found.sizes


def meetings(nest, array, position, sizes):
    """The distances of all x, y and z at some sizes, and whether a first content is read."""
    runs, _ = history(nest, sizes)
    order = {id(run): at for at, (run, _) in enumerate(runs)}
    found, is_first = set(), False
    for at, (run, sources) in enumerate(runs):
        for cell, source in zip(run.reads, sources):
            if cell[0] == array and source is None:
                is_first = True
            elif cell[0] == array:
                for between, _ in runs[order[id(source)] + 1:at]:
                    if between.writes[0] == array and others(between.writes, position) == others(cell, position):
                        found.add(between.writes[1][position] - cell[1][position])
    return found, is_first


def others(cell, position):
    return (*cell[1][:position], *cell[1][position + 1:])


class WindowTest(unittest.TestCase):
    def test_example(self):
        self.assertEqual(told(BLUR, "t", 0), (2, "", [(1, 1)], None))
        self.assertEqual(told(BLUR, "x", 0), (None, "first", [], {"n": 0}))
        self.assertEqual(told(BLUR, "b", 0), (1, "", [], None))
        self.assertEqual([bool(window(BLUR, array, 0)) for array in "txb"], [True, False, True])
        found = clash(BLUR, "t", 0, 1)
        self.assertEqual((found.sizes, found.source, found.reader, found.writer, found.distance),
                         ({"n": 1}, (0, (0,)), (1, (1,), 1), (0, (1,)), 1))
        self.assertIsNone(clash(BLUR, "t", 0, 2))

    def test_kept_goes_before_first(self):
        kept = Nest(BLUR.sizes, (), {}, ("t", "x"), BLUR.body)
        self.assertEqual(told(kept, "t", 0), (None, "kept", [], None))
        self.assertEqual(told(kept, "x", 0), (None, "kept", [], None))
        self.assertFalse(any(window(kept, "t", 0).serves(wide) for wide in range(1, 9)))
        self.assertEqual(clash(kept, "t", 0, 1).distance, 1)

    def test_endless(self):
        nest = read_nest('sizes n\nup i from 0 to n\n  f(i): t[i] =\nup i from 0 to n\n  g(i): b[i] = t[i]\n')
        self.assertEqual(told(nest, "t", 0), (None, "endless", [(1, None)], None))
        self.assertFalse(window(nest, "t", 0).serves(10 ** 6))
        found = clash(nest, "t", 0, 1000)
        self.assertEqual((found.sizes, found.distance), ({"n": 1000}, 1000))
        back = read_nest('sizes n\ndown i from 0 to n\n  f(i): t[i] =\nup i from 0 to n\n  g(i): b[i] = t[i]\n')
        self.assertEqual(told(back, "t", 0)[2], [(None, -1)])
        self.assertEqual(clash(back, "t", 0, 7).distance, -7)

    def test_least_window_between_distances(self):
        nest = read_nest('sizes n\nup i from 0 to n\n  f(i): t[i] =\n  g(i): t[i + 4] =\n  h(i): t[i + 6] =\n  k(i): b[i] = t[i]\n')
        self.assertEqual(told(nest, "t", 0), (5, "", [(4, 4), (6, 6)], None))
        self.assertEqual([wide for wide in range(1, 10) if window(nest, "t", 0).serves(wide)], [5, 7, 8, 9])
        self.assertEqual({wide: clash(nest, "t", 0, wide).distance for wide in (1, 2, 3, 4, 6)},
                         {1: 4, 2: 4, 3: 6, 4: 4, 6: 6})

    def test_two_indexes(self):
        nest = read_nest('sizes n, m\nup i from 0 to n\n  up j from 0 to m\n    f(i, j): t[i, j] =\n'
                         '  up j from 0 to m\n    g(i, j): b[i, j] = t[i, j]\n')
        self.assertEqual(told(nest, "t", 0), (1, "", [], None))
        self.assertEqual(told(nest, "t", 1), (None, "endless", [(1, None)], None))
        late = read_nest('sizes n, m\nup i from 0 to n\n  up j from 0 to m\n    f(i, j): t[i, j] =\n    when 2 <= i\n'
                         '      g(i, j): b[i, j] = t[i - 2, j]\n')
        self.assertEqual(told(late, "t", 0), (3, "", [(1, 2)], None))
        self.assertEqual(told(late, "t", 1), (None, "endless", [(1, None)], None))

    def test_great_distances(self):
        nest = read_nest('sizes n\nup i from 0 to n\n  f(i): t[i] =\n  when 9000 <= i\n    g(i): b[i] = t[i - 9000]\n')
        self.assertEqual(told(nest, "t", 0), (9001, "", [(1, 9000)], None))
        self.assertEqual(clash(nest, "t", 0, 9000).sizes, {"n": 9000})
        self.assertIsNone(clash(nest, "t", 0, 9001))
        given = read_nest('sizes n\ngiven n <= 9001\n' + "up i from 0 to n\n  f(i): t[i] =\n  when 9000 <= i\n"
                          "    g(i): b[i] = t[i - 9000]\n")
        self.assertEqual(told(given, "t", 0)[2], [(1, 9000)])

    def test_givens_take_sizes_away(self):
        nest = read_nest('sizes n\ngiven n <= 3\nup i from 0 to n\n  f(i): t[i] =\nup i from 0 to n\n  g(i): b[i] = t[i]\n')
        self.assertEqual(told(nest, "t", 0), (4, "", [(1, 3)], None))
        never = read_nest('sizes n\ngiven n <= -1\n'
                          'up i from 0 to n\n  f(i): t[i] = t[i + 1]\n')
        self.assertEqual(told(never, "t", 0), (1, "", [], None))
        self.assertIsNone(clash(never, "t", 0, 1))

    def test_least_sizes_of_first(self):
        nest = read_nest('sizes n, m\nup i from 2 to n\n  f(i): t[i] = t[i - 1]\nup j from 1 to m\n  g(j): b[j] = t[j]\n')
        self.assertEqual(told(nest, "t", 0), (None, "first", [], {"n": 0, "m": 1}))

    def test_only_room(self):
        nest = read_nest('sizes n\nroom r[0 .. n, 0 .. 1]\nup i from 0 to n\n  f(i): t[i] =\n')
        self.assertEqual(told(nest, "r", 1), (1, "", [], None))

    def test_runs_at_small_sizes(self):
        rng = random.Random(24)
        for turn in range(90):
            nest = (Maker(rng).nest, lambda: neighbours(rng), lambda: families(rng))[turn % 3]()
            high = 5 if len(nest.sizes) == 1 else 3
            for array, many in nest.arrays.items():
                for position in range(many):
                    self.check(nest, array, position, small_sizes(nest, high), high)

    def check(self, nest, array, position, sizes, high):
        distances, firsts = set(), []
        for one in sizes:
            more, is_first = meetings(nest, array, position, one)
            distances |= more
            firsts.extend([one] if is_first else [])
        found = window(nest, array, position)
        if array in nest.kept:
            self.assertEqual(told(nest, array, position), (None, "kept", [], None))
        elif firsts:
            self.assertEqual((found.least, found.why, found.stretches), (None, "first", []))
            self.assertLessEqual(list(found.sizes.values()), list(firsts[0].values()))
            self.assertTrue(meetings(nest, array, position, found.sizes)[1])
        elif found.why != "first":
            self.assertTrue(all(in_stretches(found.stretches, one) for one in distances))
            far = 40
            hit = [one for one in range(-far, far + 1) if in_stretches(found.stretches, one)]
            for wide in range(1, 8):
                self.assertEqual(found.serves(wide), not any(one % wide == 0 for one in hit))
            if found.least is not None:
                self.assertTrue(found.serves(found.least))
                self.assertFalse(any(found.serves(wide) for wide in range(1, found.least)))
        for wide in range(1, 4):
            self.check_clash(nest, array, position, wide, distances)

    def check_clash(self, nest, array, position, wide, distances):
        found = clash(nest, array, position, wide)
        if found is None:
            self.assertFalse(any(one % wide == 0 for one in distances))
            return
        runs, _ = history(nest, found.sizes)
        order = {(run.place, run.counters): at for at, (run, _) in enumerate(runs)}
        first, last, between = order[found.source], order[found.reader[:2]], order[found.writer]
        source = runs[last][1][found.reader[2]]
        self.assertEqual((source.place, source.counters), found.source)
        self.assertTrue(first < between < last)
        cell, written = runs[last][0].reads[found.reader[2]], runs[between][0].writes
        self.assertEqual((cell[0], written[0]), (array, array))
        self.assertEqual(others(cell, position), others(written, position))
        self.assertEqual(found.distance, written[1][position] - cell[1][position])
        self.assertTrue(found.distance % wide == 0 and found.distance != 0)

    def test_answers_are_new(self):
        found = window(BLUR, "t", 0)
        found.stretches.append((5, 5))
        self.assertEqual(window(BLUR, "t", 0).stretches, [(1, 1)])

    def test_errors(self):
        for array, position in (("zz", 0), (1, 0), (None, 0), ("t", 1), ("t", -1), ("t", True), ("t", "0"), ("t", None)):
            with self.assertRaises(NoPlace):
                window(BLUR, array, position)
            with self.assertRaises(NoPlace):
                clash(BLUR, array, position, 0)
        for wide in (0, -1, True, "1", None, 1.5):
            with self.assertRaises(BadNumber) as caught:
                clash(BLUR, "t", 0, wide)
            self.assertEqual(caught.exception.value, wide)
            with self.assertRaises(BadNumber) as caught:
                window(BLUR, "x", 0).serves(wide)
            self.assertEqual(caught.exception.value, wide)
        with self.assertRaises(NoPlace):
            window(read_nest('sizes n\nf(): t[] =\n'), "t", 0)


if __name__ == "__main__":
    unittest.main()
