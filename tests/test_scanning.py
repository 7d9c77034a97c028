"""[29]: nests scanned by times, and `check_times` of [28]."""

import inspect
import random
import sys
import unittest

from loopsheds.errors import BadName, BadTimes
from loopsheds.faults import Doubled
from loopsheds.nests import Nest, statements
from loopsheds.reading import read_nest
from loopsheds.regions import Region
from loopsheds.running import runs
from loopsheds.scanning import scan
from loopsheds.separating import separated
from loopsheds.tables import limit_of, table_of
from loopsheds.times import order_times
from loopsheds.trimming import empty_rounds
from loopsheds.writing import write_nest
from tests.helpers import random_system
from tests.makers import families, neighbours, rounds_of, some_times, thickets, time_of, towers
from tests.nesting import Maker, paths_of, small_sizes

BLUR = read_nest("sizes n\nup i from 0 to n\n  f(i): t[i] = x[i]\n  when 1 <= i\n    g(i): b[i] = t[i], t[i - 1]\n")
TWO = read_nest('sizes n, m\nkeep a\nroom a[0 .. n]\nup i from 0 to n\n  f(i): a[i] =\nup j from 0 to m\n  g(j): a[j] = a[j]\n')


def told(nest, sizes):
    return [(run.name, run.writes, run.reads) for run in runs(nest, sizes)]


class ScanningTest(unittest.TestCase):
    def test_example(self):
        late = scan(BLUR, [(("0", 0), ("i", 0)), (("0", 1), ("i", 0))], counters=("p", "q"))
        self.assertEqual([run.name for run in runs(late, {"n": 2})],
                         [("f", (0,)), ("f", (1,)), ("f", (2,)), ("g", (1,)), ("g", (2,))])

    def test_parts_that_stay(self):
        nest = TWO.supposing(("n", "m", 3))
        late = scan(nest, [[("i", 0)], [("j", 0)]], counters=["p"])
        self.assertEqual((late.sizes, late.given, late.rooms, late.kept), (nest.sizes, nest.given, nest.rooms, nest.kept))
        self.assertEqual(nest.rooms, {"a": ((("0", 0), ("n", 0)),)})

    def test_order_that_hangs_on_sizes(self):
        late = scan(TWO, [(("n", 0), ("i", 0)), (("m", 0), ("j", 0))], counters=("p", "q"))
        for sizes in small_sizes(TWO, 4):
            found = [run.label for run in runs(late, sizes)]
            self.assertEqual(sorted(found), ["f"] * (sizes["n"] + 1) + ["g"] * (sizes["m"] + 1))
            if sizes["n"] != sizes["m"]:
                self.assertEqual(found, sorted(found, reverse=sizes["n"] > sizes["m"]))
            else:
                self.assertEqual(found, ["f", "g"] * (sizes["n"] + 1))

    def test_times_of_one_statement_go_first(self):
        late = scan(BLUR, [(("i", 0),), (("i", 0),)], counters=("p",))
        self.assertEqual([run.label for run in runs(late, {"n": 2})], ["f", "f", "g", "f", "g"])
        swapped = read_nest('sizes n\nf(0): t[] =\ng(0): t[] =\n')
        self.assertEqual(write_nest(scan(swapped, [(("n", 0),), (("n", 0),)], counters=("p",))),
                         'sizes n\nup p from n to n\n  f(0): t[] =\n  g(0): t[] =\n')

    def test_nests_without_runs(self):
        empty = read_nest('sizes n\nkeep a\n')
        self.assertEqual(scan(empty, [], counters=("p", "q")).body, ())
        self.assertEqual(scan(empty, (), counters=()).body, ())
        never = Nest(BLUR.sizes, (("n", "0", -1),), {}, (), BLUR.body)
        self.assertEqual(scan(never, order_times(never), counters=tuple("pqrs")).body, ())
        nothing = [Region.nothing(()), Region.nothing(("i",))]
        self.assertEqual(scan(BLUR, order_times(BLUR), counters=tuple("pqrs"), regions=nothing).body, ())

    def test_regions(self):
        regions = [Region(("n", "i"), [[("i", "0", 1)], [("n", "i", 0)]]), Region.whole(())]
        late = scan(BLUR, [(("i", 0),), (("i", 0),)], counters=("p",), regions=regions)
        self.assertEqual([run.name for run in runs(late, {"n": 4})],
                         [("f", (0,)), ("f", (1,)), ("g", (1,)), ("g", (2,)), ("g", (3,)), ("f", (4,)), ("g", (4,))])
        self.assertEqual(len(list(runs(late, {"n": 1}))), 3)

    def test_regions_with_pieces_that_overlap(self):
        three = [[("i", "0", 2)], [("0", "i", -1), ("i", "0", 3)], [("i", "0", 2), ("i", "n", -1)], [("n", "i", 0)]]
        late = scan(BLUR, [(("i", 0),), (("i", 0),)], counters=("p",),
                    regions=[Region(("i", "n"), three), Region.nothing(())])
        for n in range(8):
            wanted = [("f", (i,)) for i in range(n + 1) if i <= 3 or i == n]
            self.assertEqual([run.name for run in runs(late, {"n": n})], wanted)

    def test_many_pieces(self):
        """Pieces are made one by one, however many there are, and not each within the next one."""
        apart = [table_of([("i", "0", 2 * at), ("0", "i", -2 * at)]) for at in range(400)]
        self.assertEqual(len(separated(apart)), 400)
        most = sys.getrecursionlimit()
        sys.setrecursionlimit(len(inspect.stack()) + 60)
        try:
            (piece,) = separated([*apart, table_of([("i", "0", 800), ("0", "i", 0)])])
        finally:
            sys.setrecursionlimit(most)
        self.assertEqual((piece.parts, limit_of(piece.table, "i", "0")), (list(range(401)), 800))

    def test_orders_in_a_ring(self):
        nest = read_nest('sizes n, m\nwhen n == 3\n  f(0): t[] =\nwhen m == 3\n  g(0): t[] =\nwhen n == m + 3\n'
                         '  h(0): t[] =\n')
        times = [(("0", 1),), (("0", 2),), (("n", -3),)]
        late = scan(nest, times, counters=("p",))
        self.check(nest, late, times, ("p",), small_sizes(nest, 8))
        self.assertEqual([[run.label for run in runs(late, {"n": n, "m": m})] for n, m in ((3, 3), (6, 3), (3, 0))],
                         [["f", "g"], ["g", "h"], ["h", "f"]])

    def test_loops_of_one_round(self):
        nest = read_nest('sizes n, m\nwhen n == m\n  up i from n to m\n    f(i): a[i] =\n')
        (loop,) = statements(scan(nest, [(("i", 0),)], counters=("p",)))[0].loops
        self.assertEqual(loop[1], loop[2])

    def test_great_numbers(self):
        nest = read_nest('sizes n\nup i from -200 to n\n  f(i): a[i] =\nup i from 0 to n + 200\n  g(i): b[i] =\n')
        times = [(("i", 200),), (("i", -200),)]
        late = scan(nest, times, counters=("p",))
        self.check(nest, late, times, ("p",), [{"n": 0}, {"n": 3}, {"n": 150}])

    def test_counters_that_times_do_not_have(self):
        nest = read_nest('sizes n, m\nup i from n to n\n  up j from i + 2 to n + 2\n    when n == m\n      up k from 3 to 3\n'
                         '        f(i, j, k): a[i] = a[j + 1], a[k - 1]\n')
        self.assertEqual(write_nest(scan(nest, [(("0", 5),)], counters=("p",))),
                         'sizes n, m\nwhen m <= n and n <= m\n  up p from 5 to 5\n'
                         '    f(n, n + 2, p - 2): a[n] = a[n + 3], a[p - 3]\n')

    def test_names_of_counters(self):
        nest = read_nest('sizes n\nup i from 0 to n\n  up j from i to n\n    f(i, j): a[i, j] =\n')
        late = scan(nest, [(("j", 0), ("i", 1))], counters=("i", "j"))
        self.assertEqual(write_nest(late),
                         'sizes n\nup i from 0 to n\n  up j from 1 to i + 1\n    f(j - 1, i): a[j - 1, i] =\n')

    def test_runs_at_small_sizes(self):
        rng = random.Random(29)
        for turn in range(200):
            nest = (Maker(rng).nest, lambda: neighbours(rng), lambda: families(rng), lambda: towers(rng, 3),
                    lambda: thickets(rng, 3))[turn % 5]()
            if len(statements(nest)) > 4:
                continue
            times = some_times(rng, nest)
            names = tuple(f"c{at}" for at in range(len(times[0])))
            sizes = small_sizes(nest, 5 - len(nest.sizes))
            self.check(nest, scan(nest, times, counters=names), times, names, sizes)
            regions = []
            for row in statements(nest):
                over = (*rng.sample(row.counters, rng.randint(0, len(row.counters))), *nest.sizes)
                systems = [random_system(rng, over, 2, -2, 3) for _ in range(rng.randint(0, 2))]
                regions.append(Region(over, systems))
            late = scan(nest, times, counters=names, regions=regions)
            self.check(nest, late, times, names, sizes, regions)

    def check(self, nest, late, times, names, all_sizes, regions=None):
        rows = statements(nest)
        for row in statements(late):
            self.assertEqual(row.counters, names)
            self.assertTrue(all(len(loop[1]) == len(loop[2]) == 1 and not loop[3] for loop in row.loops))
        for sizes in all_sizes:
            wanted = list(runs(nest, sizes))
            if regions is not None:
                wanted = [run for run in wanted
                          if {**sizes, **dict(zip(rows[run.place].counters, run.counters))} in regions[run.place]]
            wanted = sorted(wanted, key=lambda run: time_of(nest, times, run, sizes))
            self.assertEqual(told(late, sizes), [(run.name, run.writes, run.reads) for run in wanted])
            self.assertTrue(all(rounds_of(late, sizes).values()))
        for path, node in paths_of(late):
            if node[0] == "loop":
                self.assertFalse(empty_rounds(late, path))


class ScanErrorsTest(unittest.TestCase):
    def refused(self, error, nest, times, counters, told_of):
        with self.assertRaises(error) as caught:
            scan(nest, times, counters=counters)
        found = caught.exception
        self.assertEqual({BadTimes: "place", BadName: "name", Doubled: "label"}[error] in vars(found), True)
        self.assertEqual(list(vars(found).values()), [told_of])

    def test_times(self):
        good = (("i", 0), ("0", 0))
        for wrong in (None, "i", (), [], (("i", 0),), (("j", 0), ("0", 0)), (("i", 10000), ("0", 0)),
                      ([("i"), 0], ("0", 0)), (("i", True), ("0", 0)), (("f", 0), ("0", 0)), {("i", 0): 1},
                      (("i", 0), ("0", 0), ("0", 0)), (("i", "0"), ("0", 0)), ("i", 0), (["i", 0], ("0", 0))):
            self.refused(BadTimes, BLUR, [good, wrong], ("N", "N"), 1)
        self.refused(BadTimes, BLUR, [(), good], ("N",), 0)
        self.refused(BadTimes, BLUR, [good], ("N",), 1)
        self.refused(BadTimes, BLUR, [], ("N",), 0)
        self.refused(BadTimes, BLUR, [good, good, good], ("N",), 2)
        self.refused(BadTimes, BLUR, [good, good, None], ("N",), 2)
        self.refused(BadTimes, read_nest('sizes n\n'), [good], ("N",), 0)
        self.refused(BadTimes, BLUR, [(("i", 0),), good], ("N",), 1)

    def test_counters(self):
        times = [(("0", 0), ("0", 0)), (("i", 0), ("0", 0))]
        for counters, name in ((("N", "p", "q"), "N"), (("p", "n"), "n"), (("p", "p"), "p"), (("p", 1), 1), (("up",), "up"),
                               (("p", ""), ""), (("a23456789_123", "p"), "a23456789_123"), ((None,), None), (("p",), None),
                               (("p", "q", "r"), None), ((), None), (["p", "q", "p"], "p")):
            self.refused(BadName, BLUR, times, counters, name)
        self.refused(BadName, read_nest('sizes n\n'), [], ("n",), "n")
        self.refused(BadName, read_nest('sizes n\nf(): t[] =\n'), [(("n", 0),)], ("p", "q"), None)

    def test_doubled(self):
        self.refused(Doubled, BLUR, [(("i", 0),), (("0", 0),)], ("p",), "g")
        self.refused(Doubled, BLUR, [(("n", 0),), (("0", 0),)], ("p",), "f")
        few = BLUR.supposing(("n", "0", 1))
        self.assertEqual(len(statements(scan(few, [(("i", 0),), (("0", 9),)], counters=("p",)))), 2)
        self.refused(Doubled, BLUR.supposing(("n", "0", 2)), [(("i", 0),), (("0", 9),)], ("p",), "g")


if __name__ == "__main__":
    unittest.main()
