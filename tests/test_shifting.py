"""[25]: neighbouring loops that go as one, each some rounds late."""

import itertools
import random
import unittest

from loopsheds.agreeing import agree
from loopsheds.errors import BadNumber, BadShifts, Descending, NoLoop
from loopsheds.faults import NoNode
from loopsheds.nests import statements
from loopsheds.reading import read_nest
from loopsheds.running import runs
from loopsheds.scanning import scan
from loopsheds.shifting import beyond, broken_pair, shift_times, shifts, where_joined
from loopsheds.times import order_times
from tests.makers import loops_around, neighbours
from tests.nesting import Maker, paths_of, small_sizes

LATE = read_nest("sizes n\nup i from 0 to n\n  f(i): t[i] = x[i]\nup j from 1 to n - 1\n  g(j): b[j] = t[j + 1]\n")
THREE = read_nest('sizes n\nkeep c\nup i from 0 to n\n  f(i): a[i] =\nup i from 0 to n\n  g(i): b[i] = a[i + 2]\n'
                  'up i from 0 to n\n  h(i): c[i] = b[i + 3], a[i - 1]\nf(0): z[] =\ndown i from 0 to n\n  k(i): z[] =\n')


def pairs_that_touch(nest, path, many, sizes):
    """For all pairs of runs that touch: the numbers of their loops, their rounds, and the runs."""
    rows = statements(nest)
    depth = loops_around(nest, path)
    inside = []
    for run in runs(nest, sizes):
        way = rows[run.place].path
        if len(way) > len(path) and way[:len(path) - 1] == path[:-1]:
            number = way[len(path) - 1] - path[-1]
            if 0 <= number < many:
                inside.append((number, run))
    found = []
    for (one, run), (other, late) in itertools.product(inside, repeat=2):
        if one < other and run.counters[:depth] == late.counters[:depth]:
            if run.writes in (late.writes, *late.reads) or late.writes in run.reads:
                found.append((one, other, run.counters[depth], late.counters[depth],
                              (run.place, run.counters), (late.place, late.counters)))
    return found


class ShiftsTest(unittest.TestCase):
    def test_example(self):
        found = shifts(LATE, (0,))
        self.assertEqual((found.least, found.gaps, found.barred, bool(found)), ((0, 1), {(0, 1): 1}, None, True))
        self.assertIsNone(broken_pair(LATE, (0,), (3, 4)))
        self.assertEqual(shift_times(LATE, (0,), (0, 1)),
                         [(("0", 0), ("i", 0), ("0", 0), ("0", 0)), (("0", 0), ("j", 1), ("0", 1), ("0", 0))])

    def test_three_loops(self):
        found = shifts(THREE, (0,), 3)
        self.assertEqual((found.least, found.gaps), ((0, 2, 5), {(0, 1): 2, (0, 2): -1, (1, 2): 3}))
        self.assertEqual(shifts(THREE, (1,)).least, (0, 3))
        self.assertEqual(broken_pair(THREE, (0,), (0, 2, 4))[1:], ((1, (3,)), (2, (0,))))
        self.assertEqual(where_joined(THREE, (0,), [0, 2, 4]).spread("n"), [(0, 2)])

    def test_no_pair_touches(self):
        nest = read_nest('sizes n\nup i from 0 to n\n  f(i): a[i] = x[i]\nup i from 0 to n\n  g(i): b[i] = x[i + 5]\n')
        found = shifts(nest, (0,))
        self.assertEqual((found.least, found.gaps, bool(found)), ((0, 0), {}, True))
        self.assertIsNone(beyond(nest, (0,), 0, 1, -9))

    def test_barred(self):
        nest = read_nest('sizes n\nup i from 0 to n\n  f(i): a[i] =\nup i from 0 to n\n  g(i): b[i] = a[i]\n'
                         'up i from 0 to n\n  h(i): c[i] = a[0], b[2]\n')
        found = shifts(nest, (0,), 3)
        self.assertEqual((found.least, found.gaps, found.barred), ((0, 0, 2), {(0, 1): 0, (0, 2): 0, (1, 2): 2}, None))
        ends = read_nest('sizes n\nup i from 0 to n\n  f(i): a[i] =\nup i from 0 to n\n  g(i): b[i] = a[i]\n'
                         'up i from 0 to n\n  h(i): c[i] = a[0], b[n]\n')
        found = shifts(ends, (0,), 3)
        self.assertEqual((found.least, found.gaps, found.barred), (None, {(0, 1): 0, (0, 2): 0}, (1, 2)))
        scalar = read_nest('sizes n\nup i from 0 to n\n  f(i): a[i] = t[]\nup i from 0 to n\n  g(i): t[] =\n')
        found = shifts(scalar, (0,))
        self.assertEqual((found.least, found.gaps, found.barred, bool(found)), (None, {}, (0, 1), False))
        self.assertEqual(beyond(scalar, (0,), 0, 1, 100), {"n": 101})
        self.assertEqual(where_joined(scalar, (0,), (0, 4)).spread("n"), [(0, 4)])

    def test_least_shifts_are_not_below_zero(self):
        nest = read_nest('sizes n\nup i from 9 to n\n  f(i): a[i] =\nup i from 0 to n\n  g(i): b[i] = a[i - 4]\n')
        self.assertEqual((shifts(nest, (0,)).least, shifts(nest, (0,)).gaps), ((0, 0), {(0, 1): -4}))

    def test_great_numbers(self):
        nest = read_nest('sizes n\nup i from 0 to n\n  f(i): a[i + 9999] =\nup i from 0 to n\n  g(i): b[i] = a[i]\n')
        self.assertEqual(shifts(nest, (0,)).gaps, {(0, 1): -9999})
        back = read_nest('sizes n\nup i from 0 to n\n  f(i): a[i] =\nup i from 0 to n\n  g(i): b[i] = a[i + 9999]\n')
        self.assertEqual(shifts(back, (0,)).least, (0, 9999))
        self.assertEqual(beyond(back, (0,), 0, 1, 9998), {"n": 9999})
        self.assertIsNone(beyond(back, (0,), 0, 1, 9999))
        self.assertEqual(where_joined(back, (0,), (0, 9998)).spread("n"), [(0, 9998)])

    def test_values_of_loops_around(self):
        nest = read_nest('sizes n\ndown k from 0 to n\n  up i from 0 to n\n    f(k, i): a[i] =\n  up i from 0 to n\n'
                         '    when 1 <= k\n      g(k, i): b[i] = a[i + 1]\n')
        self.assertEqual(shifts(nest, (0, 0)).least, (0, 1))
        with self.assertRaises(Descending) as caught:
            shift_times(nest, (0, 0), (0, 1))
        self.assertEqual(caught.exception.path, (0,))

    def test_runs_at_small_sizes(self):
        rng = random.Random(25)
        seen = 0
        for turn in range(150):
            nest = neighbours(rng) if turn % 3 else Maker(rng).nest()
            sizes = small_sizes(nest, 4 if len(nest.sizes) == 1 else 3)
            for path, _ in paths_of(nest):
                for many in range(2, 5):
                    try:
                        shifts(nest, path, many)
                    except (NoNode, NoLoop, Descending):
                        break
                    seen += 1
                    self.check(rng, nest, path, many, sizes)
        self.assertGreater(seen, 50)

    def check(self, rng, nest, path, many, sizes):
        touching = [pairs_that_touch(nest, path, many, one) for one in sizes]
        found = shifts(nest, path, many)
        delays = [tuple(rng.randint(0, 3) for _ in range(many)) for _ in range(2)]
        for pair in [pair for row in touching for pair in row]:
            if found.barred is None:
                self.assertLessEqual(pair[2] - pair[3], found.gaps[pair[:2]])
        if found.barred is None:
            least = [0] * many
            for one, other in sorted(found.gaps):
                least[other] = max(least[other], max(0, *[least[a] + found.gaps[(a, other)] for a in range(other)
                                                          if (a, other) in found.gaps]))
                self.assertIsNone(beyond(nest, path, one, other, found.gaps[(one, other)]))
                self.assertIsNotNone(beyond(nest, path, one, other, found.gaps[(one, other)] - 1))
            self.assertEqual(found.least, tuple(least))
            delays.append(found.least)
            self.assertIsNone(broken_pair(nest, path, found.least))
            self.check_scanned(nest, path, found.least)
        else:
            self.assertIsNotNone(beyond(nest, path, *found.barred, 50))
            self.assertTrue(all(pair < found.barred for pair in found.gaps))
        for row in delays:
            self.check_delays(nest, path, row, sizes, touching)
        for one, other in itertools.combinations(range(many), 2):
            for gap in (-1, 0, 1):
                wide = [one_size for one_size, pairs in zip(sizes, touching)
                        if any(pair[:2] == (one, other) and pair[2] - pair[3] > gap for pair in pairs)]
                told = beyond(nest, path, one, other, gap)
                if wide:
                    self.assertLessEqual(list(told.values()), list(wide[0].values()))
                if told in sizes:
                    self.assertEqual(told, wide[0])

    def check_delays(self, nest, path, delays, sizes, touching):
        region = where_joined(nest, path, delays)
        kept = [all(pair[2] + delays[pair[0]] <= pair[3] + delays[pair[1]] for pair in pairs) for pairs in touching]
        self.assertEqual([one in region for one in sizes], kept)
        self.assertNotIn({name: -1 for name in nest.sizes}, region)
        broken = broken_pair(nest, path, delays)
        if broken is None:
            self.assertTrue(all(kept))
        else:
            pairs = {pair[4:]: pair for pair in pairs_that_touch(nest, path, len(delays), broken[0])}
            pair = pairs[broken[1:]]
            self.assertGreater(pair[2] + delays[pair[0]], pair[3] + delays[pair[1]])

    def check_scanned(self, nest, path, delays):
        """The nest with the loops as one agrees with the nest, and each loop's rounds are as late as is told."""
        try:
            times = shift_times(nest, path, delays)
        except Descending:
            self.assertTrue(any(loop[3] for row in statements(nest) for loop in row.loops))
            return
        for atoms, late, row in zip(order_times(nest), times, statements(nest)):
            self.assertEqual(len(late), len(atoms) + 1)
            number = row.path[len(path) - 1] - path[-1] if len(row.path) > len(path) else -1
            if row.path[:len(path) - 1] == path[:-1] and 0 <= number < len(delays):
                at = len(path) + loops_around(nest, path)
                counter = row.counters[loops_around(nest, path)]
                self.assertEqual(late[at - 1:at + 2], (("0", path[-1]), (counter, delays[number]), ("0", number)))
                self.assertEqual((late[:at - 1], late[at + 2:]), (atoms[:at - 1], atoms[at + 1:]))
            else:
                self.assertEqual(late, (*atoms, ("0", 0)))
        if len(times) <= 4:
            names = [f"p{at}" for at in range(len(times[0]))]
            self.assertTrue(agree(nest, scan(nest, times, counters=names)))

    def test_errors(self):
        calls = (lambda path: shifts(THREE, path, 3), lambda path: where_joined(THREE, path, (0, 0, 0)),
                 lambda path: broken_pair(THREE, path, (0, 0, 0)), lambda path: shift_times(THREE, path, (0, 0, 0)),
                 lambda path: beyond(THREE, path, 0, 2, 0))
        for call in calls:
            for path in ((), (9,), [0], (0, 0, 0), (True,)):
                with self.assertRaises(NoNode) as caught:
                    call(path)
                self.assertEqual(caught.exception.path, path)
            for path, error, wrong in (((1,), NoLoop, (3,)), ((3,), NoLoop, (3,)), ((4,), Descending, (4,)),
                                       ((0, 0), NoLoop, (0, 0))):
                with self.assertRaises(error) as caught:
                    call(path)
                self.assertEqual(caught.exception.path, wrong)
        with self.assertRaises(NoNode) as caught:
            shifts(LATE, (0,), 3)
        self.assertEqual(caught.exception.path, (2,))
        for many in (1, 0, True, "2", None):
            with self.assertRaises(BadNumber) as caught:
                shifts(LATE, (9,), many)
            self.assertEqual(caught.exception.value, many)
        for delays in ((0,), (), (0, -1), (0, 10000), (0, True), (0, "1"), None, 5, "01", {0: 0, 1: 0}):
            for call in (where_joined, broken_pair, shift_times):
                with self.assertRaises(BadShifts):
                    call(LATE, (9,), delays)
        where_joined(LATE, (0,), [0, 9999])
        with self.assertRaises(Descending) as caught:
            shift_times(THREE, (0,), (0, 2))
        self.assertEqual(caught.exception.path, (4,))


if __name__ == "__main__":
    unittest.main()
