"""[30]: `tidy`, `left_out` and `without_unread`."""

import random
import unittest

from loopsheds.errors import BadName, Descending
from loopsheds.finals import unread
from loopsheds.moves import moved
from loopsheds.nests import statements
from loopsheds.reading import read_nest
from loopsheds.regions import Region
from loopsheds.running import runs
from loopsheds.tidying import left_out, tidy, without_unread
from loopsheds.times import order_times
from loopsheds.writing import write_nest
from tests.helpers import random_system
from tests.makers import families, neighbours, rounds_of, thickets, towers
from tests.nesting import Maker, history, paths_of, small_sizes
from tests.test_scanning import told
from tests.test_trimming import needless

BLUR = read_nest("sizes n\nup i from 0 to n\n  f(i): t[i] = x[i]\n  when 1 <= i\n    g(i): b[i] = t[i], t[i - 1]\n")


class TidyTest(unittest.TestCase):
    def test_example(self):
        self.assertEqual([without_unread(BLUR).labels, tidy(BLUR).labels], [["f"], ["f", "g"]])
        (counter,) = statements(tidy(BLUR))[0].counters
        self.assertEqual(tidy(BLUR).body, moved(BLUR, ("rename", (0,), counter)).body)

    def test_sizes_may_have_any_names(self):
        nest = read_nest("sizes t0, t1, t2\nup i from 0 to t1\n  up j from i to t0\n    f(i, j): a[i] =\n")
        self.assertEqual(told(tidy(nest), {"t0": 2, "t1": 1, "t2": 0}), told(nest, {"t0": 2, "t1": 1, "t2": 0}))

    def test_nests_without_runs(self):
        for text in ("sizes n\nkeep a\n", "sizes n\ngiven n <= -1\nup i from 0 to n\n  f(i): a[i] =\n",
                     "sizes n\nup i from 1 to 0\n  f(i): a[i] =\n"):
            nest = read_nest(text)
            for late in (tidy(nest), left_out(nest, {}), without_unread(nest)):
                self.assertEqual((late.body, late.given, late.kept), ((), nest.given, nest.kept))

    def test_many_nodes_around(self):
        """Sixteen nodes around a statement have times of 25 numbers."""
        lines = ["sizes n, m", "keep a"]
        for at in range(8):
            indent = "    " * at
            lines.append(f"{indent}up c{at} from {f'c{at - 1} - 1' if at else 0} to n")
            lines.append(f"{indent}  when {f'c0 <= c{at} + 1' if at else 'c0 <= m'} and 0 <= c{at}")
            if at in (2, 4, 6, 7):
                stamp = ", ".join(f"c{inner}" for inner in range(at + 1))
                lines.append(f"{indent}    s{at}({stamp}): a[c{at}] = a[c0 + 1]")
        nest = read_nest("\n".join(lines))
        self.assertEqual({len(row) for row in order_times(nest)}, {25})
        late = tidy(nest)
        self.assertEqual(needless(late), [])
        for sizes in ({"n": 0, "m": 0}, {"n": 1, "m": 0}, {"n": 1, "m": 1}):
            self.assertTrue(all(rounds_of(late, sizes).values()))
            self.assertEqual(told(late, sizes), told(nest, sizes))

    def test_left_out(self):
        region = Region(("n", "i"), [[("n", "i", 1), ("0", "i", -1)]])
        late = left_out(BLUR, {0: region, 1: Region.whole(())})
        self.assertEqual([[run.name for run in runs(late, {"n": n})] for n in (0, 1, 3)],
                         [[("f", (0,))], [("f", (0,))], [("f", (0,)), ("f", (1,))]])
        self.assertEqual(left_out(BLUR, {0: Region.whole(("i",)), 1: Region.whole(("n",))}).body, ())
        self.assertEqual(write_nest(left_out(BLUR, {})), write_nest(tidy(BLUR)))

    def test_without_unread_goes_once(self):
        nest = read_nest("sizes n\nkeep c\nup i from 0 to n\n  f(i): a[i] =\n  g(i): b[i] = a[i]\n  h(i): c[0] =\n")
        self.assertEqual([run.name for run in runs(without_unread(nest), {"n": 2})],
                         [("f", (0,)), ("f", (1,)), ("f", (2,)), ("h", (2,))])

    def test_runs_at_small_sizes(self):
        rng = random.Random(301)
        seen = 0
        for turn in range(200):
            nest = (Maker(rng).nest, lambda: neighbours(rng), lambda: families(rng), lambda: towers(rng, 3),
                    lambda: thickets(rng, 3))[turn % 5]()
            rows = statements(nest)
            if len(rows) > 4:
                continue
            if any(loop[3] for row in rows for loop in row.loops):
                self.check_descending(nest)
                continue
            seen += 1
            regions = {}
            for place, row in enumerate(rows):
                names = (*row.counters, *nest.sizes)
                if rng.random() < 0.7:
                    systems = [random_system(rng, names, 2, -2, 3) for _ in range(rng.randint(0, 2))]
                    regions[place] = Region(names, systems)
            nobody = {place: unread(nest, place) for place in range(len(rows))}
            for late, gone in ((tidy(nest), {}), (left_out(nest, regions), regions), (without_unread(nest), nobody)):
                self.check(nest, late, gone)
        self.assertGreater(seen, 60)

    def check(self, nest, late, gone):
        rows = statements(nest)
        self.assertEqual(needless(late), [])
        self.assertFalse(any(node[0] == "loop" and node[4] for _, node in paths_of(late)))
        for sizes in small_sizes(nest, 5 - len(nest.sizes)):
            wanted = [run for run in runs(nest, sizes) if run.place not in gone or
                      {**sizes, **dict(zip(rows[run.place].counters, run.counters))} not in gone[run.place]]
            self.assertEqual(told(late, sizes), [(run.name, run.writes, run.reads) for run in wanted])
            self.assertTrue(all(rounds_of(late, sizes).values()))

    def check_descending(self, nest):
        for call in (tidy, without_unread, lambda one: left_out(one, {0: Region.whole(("zz",))})):
            with self.assertRaises(Descending) as caught:
                call(nest)
            self.assertIn(caught.exception.path, [path for path, node in paths_of(nest) if node[0] == "loop" and node[4]])

    def test_unread_runs_matter_to_nobody(self):
        rng = random.Random(302)
        for _ in range(60):
            nest = Maker(rng).nest()
            if any(loop[3] for row in statements(nest) for loop in row.loops):
                continue
            late = without_unread(nest)
            for sizes in small_sizes(nest, 3):
                found, ends = history(nest, sizes)
                late_found, late_ends = history(late, sizes)
                sources = {run.name: [source and source.name for source in row] for run, row in found}
                for run, row in late_found:
                    self.assertEqual([source and source.name for source in row], sources[run.name])
                self.assertEqual({cell: run.name for cell, run in ends.items() if cell[0] in nest.kept},
                                 {cell: run.name for cell, run in late_ends.items() if cell[0] in nest.kept})

    def test_errors(self):
        down = read_nest("sizes n\nf(0): t[] =\nwhen 1 <= n\n  down i from 0 to n\n    down j from 0 to n\n      g(i, j): t[] =\n")
        for call in (tidy, without_unread, lambda nest: left_out(nest, {0: Region.whole(("i",))})):
            with self.assertRaises(Descending) as caught:
                call(down)
            self.assertEqual(caught.exception.path, (1, 0))
        for regions, name in (({0: Region.whole(("j",))}, "j"), ({1: Region.whole(("m", "k")), 0: Region.whole(("i",))}, "m"),
                              ({1: Region.nothing(("n", "k"))}, "k"), ({1: Region.whole(("k",)), 0: Region.whole(("l",))}, "l")):
            with self.assertRaises(BadName) as caught:
                left_out(BLUR, regions)
            self.assertEqual(caught.exception.name, name)


if __name__ == "__main__":
    unittest.main()
