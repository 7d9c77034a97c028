"""[18]: ends of cells, needs, runs that nobody reads, and carried distances."""

import itertools
import random
import unittest

from loopsheds.faults import NoPlace
from loopsheds.finals import carried, finals, needs, unread
from loopsheds.nests import statements
from loopsheds.reading import read_nest
from loopsheds.running import endings
from tests.helpers import box
from tests.nesting import Maker, history, is_run, small_sizes, told_at

WALK = read_nest('sizes n\nkeep a\nup i from 1 to n\n  f(i): a[i] = a[i - 1]\n')
ABSENT = read_nest('sizes n, m\ngiven n <= m\nroom z[0 .. n, 1 .. 2]\nkeep a, q\nup i from 0 to n\n'
                   '  f(i): t[] =\n  g(i): a[i] = t[], a[i + 2], b[n]\ng2(): a[m] = t[]\n')


def within(value, stretches):
    return any((low is None or low <= value) and (high is None or value <= high) for low, high in stretches)


class FinalsTest(unittest.TestCase):
    def check(self, nest, high, reach=3):
        """All that is told, against the runs at small sizes."""
        rows = statements(nest)
        told = {array: finals(nest, array) for array in nest.arrays}
        needed = {array: needs(nest, array) for array in nest.arrays}
        free = [unread(nest, place) for place in range(len(rows))]
        ways = {(place, read): carried(nest, place, read)
                for place, row in enumerate(rows) for read in range(len(row.reads))}
        for array in nest.arrays:
            self.assertEqual(told[array][0], tuple(str(at + 1) for at in range(nest.arrays[array])))
            self.assertEqual(needed[array].names, (*told[array][0], *nest.sizes))
        for place, row in enumerate(rows):
            self.assertEqual(free[place].names, (*row.counters, *nest.sizes))
        for sizes in small_sizes(nest, high):
            found, ends = history(nest, sizes)
            self.check_cells(nest, sizes, told, needed, found, ends, high + reach)
            self.check_runs(nest, sizes, free, ways, found, ends)

    def check_cells(self, nest, sizes, told, needed, found, ends, reach):
        firsts = {cell for run, sources in found for cell, source in zip(run.reads, sources) if source is None}
        for array, (axes, cases) in told.items():
            for numbers in itertools.product(range(-3, reach), repeat=len(axes)):
                point = {**dict(zip(axes, numbers)), **sizes}
                last = told_at(cases, point)
                self.assertEqual(len(last), 1, point)
                self.assertTrue(is_run(last[0], ends.get((array, numbers)), point), point)
                self.assertEqual(point in needed[array], (array, numbers) in firsts, point)

    def check_runs(self, nest, sizes, free, ways, found, ends):
        rows = statements(nest)
        used = {source.name for _, sources in found for source in sources if source is not None}
        used |= {run.name for cell, run in ends.items() if cell[0] in nest.kept}
        for run, sources in found:
            row = rows[run.place]
            point = {**dict(zip(row.counters, run.counters)), **sizes}
            self.assertEqual(point in free[run.place], run.name not in used)
            for read, source in enumerate(sources):
                for depth, level in enumerate(row.levels if source else []):
                    if rows[source.place].path[:level] == row.path[:level]:
                        way = run.counters[depth] - source.counters[depth]
                        self.assertTrue(within(way, ways[(run.place, read)][depth]))

    def test_example(self):
        self.assertEqual(
            [carried(WALK, 0, 0), needs(WALK, 'a').names, needs(WALK, 'a').first_point(),
             needs(WALK, 'a').spread('1'), bool(unread(WALK, 0))],
            [[[(1, 1)]], ('1', 'n'), {'1': 0, 'n': 1}, [(0, 0)], False])

    def test_many_nests(self):
        for seed in range(250):
            self.check(Maker(random.Random(seed)).nest(), 4)
        for seed in range(30):
            self.check(Maker(random.Random(seed)).nest(6, 3), 3, 1)

    def test_edges(self):
        self.check(ABSENT, 5)
        for text in (
                'sizes n\nkeep t\nf(): t[] = t[]\n', 'sizes n\nkeep a\nup i from n to 0\n  f(i): a[i] = a[i + 1]\n',
                'sizes n\nkeep a\ndown i from 0 to n\n  f(i): a[i] = a[i + 1], a[i - 1], t[]\n  g(i): t[] =\n',
                'sizes n\nkeep b\ngiven 1 <= n and n <= 3\nup i from 0, 2, n - 3 to n, 5, n + 1\n'
                '  down j from 0, i to i, i + 1, n\n    f(i, j): a[j] = a[i]\n  g(i): b[i] = a[0]\n'):
            self.check(read_nest(text), 6)

    def test_absent_arrays(self):
        axes, cases = finals(ABSENT, "z")
        self.assertEqual(axes, ("1", "2"))
        self.assertEqual({told for _, told in cases}, {("first",)})
        self.assertFalse(needs(ABSENT, "z"))
        self.assertEqual(finals(ABSENT, "t")[0], ())
        self.assertEqual(needs(ABSENT, "t").names, ("n", "m"))

    def test_nests_without_statements(self):
        nest = read_nest('sizes n, m\ngiven n <= m\nroom a[0 .. n]\nroom t[]\nkeep a, q\n')
        for array, axes in (("a", ("1",)), ("t", ())):
            found, cases = finals(nest, array)
            self.assertEqual((found, [told for _, told in cases]), (axes, [("first",)]))
            self.assertFalse(needs(nest, array))
            self.assertEqual(len(told_at(cases, {"1": 7, "n": 2, "m": 2})), 1)
        with self.assertRaises(NoPlace):
            unread(nest, 0)

    def test_points_without_sizes_are_in_no_case(self):
        for point in box(("1", "n", "m"), -3, 4):
            right = point["n"] >= 0 and point["m"] >= point["n"]
            if right:
                self.assertEqual(len(told_at(finals(ABSENT, "a")[1], point)), 1)
            else:
                self.assertNotIn(point, needs(ABSENT, "a"))
        self.assertNotIn({"i": 1, "n": 0, "m": 5}, unread(ABSENT, 0))

    def test_unread(self):
        twice = read_nest('sizes n\nkeep a\nup i from 1 to n\n  f(i): t[i] =\n  g(i): t[i] =\n  h(i): a[i] = t[i]\n')
        self.assertEqual([bool(unread(twice, place)) for place in range(3)], [True, False, False])
        self.assertEqual(unread(twice, 0).spread("i"), [(1, None)])
        self.assertTrue(unread(read_nest('sizes n\nf(): a[] =\n'), 0))
        self.assertFalse(unread(read_nest('sizes n\nkeep a\nf(): a[] =\n'), 0))
        over = read_nest('sizes n\nkeep a\nup i from 0 to n\n  f(i): a[0] =\n')
        self.assertEqual(unread(over, 0).spread("i", "n"), [(None, -1)])

    def test_carried(self):
        nest = read_nest('sizes n\nup i from 0 to n\n  up j from 0 to n\n    f(i, j): a[j] = a[j], a[j - 1], a[j + 2]\n'
                         '  g(i): b[i] = a[i]\n')
        self.assertEqual([carried(nest, 0, read) for read in range(3)], [
            [[(1, 1)], [(0, 0)]], [[(0, 0)], [(1, 1)]], [[(1, 1)], [(-2, -2)]]])
        self.assertEqual(carried(nest, 1, 0), [[(0, 0)]])
        wide = read_nest('sizes n\nup i from 0 to n\n  when i <= 0\n    f(i): t[] =\n  when 5 <= i\n    g(i): b[i] = t[]\n'
                         '  when 2 <= i and i <= 3\n    h(i): b[i] = t[]\n')
        self.assertEqual(carried(wide, 1, 0), [[(5, None)]])
        self.assertEqual(carried(wide, 2, 0), [[(2, 3)]])
        parts = read_nest('sizes n\nup i from 0 to 0\n  f(i): t[] =\nup i from 9 to 9\n  f(i): s[] = x[i]\n'
                          .replace("f(i): s", "g(i): s") + 'h(): a[] = t[]\n')
        self.assertEqual(carried(parts, 1, 0), [[]])
        self.assertEqual(carried(parts, 2, 0), [])
        gap = read_nest('sizes n\nup i from 0 to n\n  when i <= 0\n    f(i): t[i] =\n  when i <= 3\n    k(i): t[i + 4] =\n'
                        '  g(i): b[i] = t[0], t[5], t[7]\n')
        self.assertEqual(carried(gap, 2, 0), [[(0, None)]])
        self.assertEqual(carried(gap, 2, 1), [[(0, None)]])

    def test_stretches(self):
        for seed in range(150):
            nest = Maker(random.Random(seed)).nest()
            for place, row in enumerate(statements(nest)):
                for read in range(len(row.reads)):
                    found = carried(nest, place, read)
                    self.assertEqual(len(found), len(row.counters))
                    for stretches in found:
                        for (low, high), (later, _) in zip(stretches, stretches[1:]):
                            self.assertLess(high + 1, later)

    def test_great_sizes(self):
        nest = read_nest('sizes n\nkeep a\nup i from 0 to n\n  f(i): a[i] = a[i + 9999], a[i - 7000]\n'
                         'up j from 0 to n - 5000\n  g(j): a[j] =\n')
        self.assertEqual(carried(nest, 0, 0), [[]])
        self.assertEqual(carried(nest, 0, 1), [[(7000, 7000)]])
        self.assertEqual(unread(nest, 0).first_point(), {"i": 0, "n": 5000})
        self.assertEqual(unread(nest, 0).spread("i", "n"), [(-6999, -5000)])
        self.assertFalse(unread(nest, 1))
        self.assertEqual(needs(nest, "a").spread("1", "n"), [(None, 9999)])

    def test_endings_at_great_sizes(self):
        nest = read_nest('sizes n\nkeep a\nup i from 0 to n\n  f(i): a[i] =\n  when i <= 3\n    g(i): a[i + 3000] =\n')
        cases = finals(nest, "a")[1]
        for (_, (number,)), (label, (value,)) in endings(nest, {"n": 4000}).items():
            point = {"1": number, "n": 4000}
            (told,) = told_at(cases, point)
            self.assertEqual((told[1], [point.get(name, 0) + shift for name, shift in told[2]]),
                             ("fg".index(label), [value]))

    def test_places(self):
        for array in ("b2", "", None, 3, ("a",), ["a"]):
            for call in (finals, needs):
                with self.assertRaises(NoPlace):
                    call(ABSENT, array)
        with self.assertRaises(NoPlace):
            finals(ABSENT, "q")
        for place in (-1, 3, True, "0", None):
            with self.assertRaises(NoPlace):
                unread(ABSENT, place)
            with self.assertRaises(NoPlace):
                carried(ABSENT, place, 0)
        for read in (-1, 3, True, None):
            with self.assertRaises(NoPlace):
                carried(ABSENT, 1, read)


if __name__ == "__main__":
    unittest.main()
