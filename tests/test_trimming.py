"""[30]: `trim`, and `empty_rounds` of [29]."""

import itertools
import random
import unittest

from loopsheds.differences import implied, solution
from loopsheds.errors import NoLoop
from loopsheds.faults import NoNode
from loopsheds.nests import Nest, bounds, statements
from loopsheds.reading import read_nest
from loopsheds.scanning import scan
from loopsheds.trimming import empty_rounds, trim
from loopsheds.writing import write_nest
from tests.makers import families, neighbours, rounds_of, some_times, thickets, towers
from tests.nesting import Maker, paths_of, small_sizes
from tests.test_scanning import told

BLUR = read_nest("sizes n\nup i from 0 to n\n  f(i): t[i] = x[i]\n  when 1 <= i\n    g(i): b[i] = t[i], t[i - 1]\n")


def needless(nest):
    """What is needless in a nest: nodes without a run, differences and bounds that follow, loops of one round."""
    found = []

    def go(body, known):
        for node in body:
            if node[0] == "test":
                for at, difference in enumerate(node[1]):
                    if implied([*known, *node[1][:at], *node[1][at + 1:]], difference):
                        found.append(difference)
                go(node[2], [*known, *node[1]])
            elif node[0] == "loop":
                lows = [(name, node[1], -shift) for name, shift in node[2]]
                highs = [(node[1], name, shift) for name, shift in node[3]]
                for row, others in ((lows, highs), (highs, lows)):
                    for at, bound in enumerate(row):
                        if len(row) > 1 and implied([*known, *row[:at], *row[at + 1:], *others], bound):
                            found.append(bound)
                if len(lows) == len(highs) == 1 and node[2] == node[3]:
                    found.append(node[1])
                go(node[5], [*known, *lows, *highs])
    go(nest.body, [*nest.given, *[("0", size, 0) for size in nest.sizes]])
    alive = [row.path for place, row in enumerate(statements(nest)) if solution(bounds(nest, place)) is not None]
    return found + [path for path, _ in paths_of(nest) if not any(one[:len(path)] == path for one in alive)]


class TrimTest(unittest.TestCase):
    def trimmed(self, text):
        nest = read_nest(text)
        late = trim(nest)
        self.assertEqual(needless(late), [])
        for sizes in small_sizes(nest, 4):
            self.assertEqual(told(late, sizes), told(nest, sizes))
        return write_nest(late)

    def test_example(self):
        self.assertEqual(
            self.trimmed("sizes n\nup i from 0, -2 to n\n  when i <= n + 1\n    up j from i to i\n      f(i, j): a[j] =\n"),
            "sizes n\nup i from 0 to n\n  f(i, i): a[i] =\n")

    def test_bounds_that_follow(self):
        self.assertEqual(self.trimmed("sizes n, m\ngiven n <= m\nup i from 0, -1 to n, m, n + 3\n  f(i): a[i] =\n"),
                         "sizes n, m\ngiven n <= m\nup i from 0 to n\n  f(i): a[i] =\n")
        self.assertEqual(self.trimmed("sizes n\ndown i from 0 to n\n  up j from 0, i to n, i + 2, n + 1\n    f(i, j): a[i] =\n"),
                         "sizes n\ndown i from 0 to n\n  up j from i to n, i + 2\n    f(i, j): a[i] =\n")

    def test_bounds_that_are_lows_and_highs_follow(self):
        self.assertEqual(self.trimmed("sizes n, m\ngiven n <= m\nup i from n, m to n\n  f(i): a[i] =\n"),
                         "sizes n, m\ngiven n <= m\nup i from m to n\n  f(i): a[i] =\n")
        self.assertEqual(self.trimmed("sizes n, m\ngiven n <= m\nup i from m to n, m\n  f(i): a[i] =\n"),
                         "sizes n, m\ngiven n <= m\nup i from m to n\n  f(i): a[i] =\n")

    def test_only_bounds_stay(self):
        self.assertEqual(self.trimmed("sizes n\nwhen n <= 3\n  up i from n to 3\n    f(i): a[i] =\n"),
                         "sizes n\nwhen n <= 3\n  up i from n to 3\n    f(i): a[i] =\n")

    def test_tests_that_follow(self):
        self.assertEqual(self.trimmed("sizes n\nwhen 0 <= n and n <= 9\n  up i from 0 to n\n    when i <= 9 and i <= n - 1\n"
                                      "      f(i): a[i] =\n    when i <= n\n      g(i): a[i] =\n"),
                         "sizes n\nwhen n <= 9\n  up i from 0 to n\n    when i <= n - 1\n      f(i): a[i] =\n    g(i): a[i] =\n")
        self.assertEqual(self.trimmed("sizes n, m\nwhen n <= m and m <= n and n <= m + 1\n  f(): a[n] =\n"),
                         "sizes n, m\nwhen n <= m and m <= n\n  f(): a[n] =\n")

    def test_nodes_without_runs(self):
        self.assertEqual(self.trimmed("sizes n\nup i from 2 to 1\n  f(i): a[i] =\nup i from 0 to n\n  when n <= i - 1\n"
                                      "    f(i): a[i] =\n  g(i): a[i] =\nwhen n <= 3\n  when 4 <= n\n    h(): a[0] =\n"),
                         "sizes n\nup i from 0 to n\n  g(i): a[i] =\n")
        self.assertEqual(self.trimmed("sizes n\ngiven n <= -1\nup i from 0 to n\n  f(i): a[i] =\n"), "sizes n\ngiven n <= -1\n")

    def test_loops_of_one_round(self):
        self.assertEqual(self.trimmed("sizes n\nup i from 3 to 3\n  up j from i to n\n    when j <= i + 1\n"
                                      "      f(i, j, 1): a[i + 1] =\n"),
                         "sizes n\nup j from 3 to n\n  when j <= 4\n    f(3, j, 1): a[4] =\n")
        self.assertEqual(self.trimmed("sizes n\nup i from 0 to n\n  up j from i, 0 to i, n\n    up k from j - 1 to i - 1\n"
                                      "      when k <= j and i <= k + 1\n        f(i, j, k): a[k] =\n"),
                         "sizes n\nup i from 0 to n\n  f(i, i, i - 1): a[i - 1] =\n")

    def test_loops_from_the_greatest_to_the_least_of_two(self):
        text = "sizes n, m\nup i from n, m to n, m\n  f(i): a[i] =\n"
        self.assertEqual(self.trimmed(text), text)

    def test_bounds_that_are_lows_and_highs_stay(self):
        self.assertEqual(self.trimmed("sizes n, m\ngiven n == m\nup i from n, m to n\n  f(i): a[i] =\n"
                                      "up i from m, n to n\n  g(i): a[i] =\nup i from m to n, m\n  h(i): a[i] =\n"),
                         "sizes n, m\ngiven n <= m\ngiven m <= n\nf(n): a[n] =\ng(n): a[n] =\nh(m): a[m] =\n")

    def test_what_stays(self):
        nest = read_nest("sizes n, m\ngiven m <= n + 2 and 0 <= n\nroom a[0 .. n]\nkeep a, b\nf(): a[0] =\n")
        late = trim(nest)
        self.assertEqual((late.sizes, late.given, late.rooms, late.kept, late.body),
                         (nest.sizes, nest.given, nest.rooms, nest.kept, nest.body))

    def test_runs_at_small_sizes(self):
        rng = random.Random(30)
        for turn in range(240):
            nest = (Maker(rng).nest, lambda: neighbours(rng), lambda: families(rng), lambda: towers(rng, 3),
                    lambda: thickets(rng, 3))[turn % 5]()
            if turn % 5 == 0 and len(statements(nest)) <= 4:
                times = some_times(rng, nest)
                nest = scan(nest, times, counters=[f"p{at}" for at in range(len(times[0]))])
            late = trim(nest)
            self.assertEqual(needless(late), [])
            for sizes in small_sizes(nest, 5 - len(nest.sizes)):
                self.assertEqual(told(late, sizes), told(nest, sizes))


class EmptyRoundsTest(unittest.TestCase):
    def test_rounds(self):
        nest = read_nest("sizes n\nup i from 0 to n\n  up j from 0 to i - 2\n    f(i, j): a[i] =\n  when 5 <= i\n    g(i): a[i] =\n")
        region = empty_rounds(nest, (0,))
        self.assertEqual((region.names, region.spread("i"), region.spread("n")), (("i", "n"), [(0, 1)], [(0, None)]))
        self.assertEqual(empty_rounds(nest, (0, 0)).names, ("i", "j", "n"))
        self.assertFalse(empty_rounds(nest, (0, 0)))
        never = Nest(nest.sizes, (("n", "0", -1),), {}, (), nest.body)
        self.assertFalse(empty_rounds(never, (0,)))
        self.assertEqual(empty_rounds(never, (0, 0)).names, ("i", "j", "n"))

    def test_runs_at_small_sizes(self):
        rng = random.Random(291)
        for turn in range(80):
            nest = (Maker(rng).nest, lambda: families(rng))[turn % 2]()
            regions = {path: empty_rounds(nest, path) for path, node in paths_of(nest) if node[0] == "loop"}
            for sizes in small_sizes(nest, 3 if len(nest.sizes) == 1 else 2):
                made = rounds_of(nest, sizes)
                for path, region in regions.items():
                    many = len(region.names) - len(nest.sizes)
                    for values in itertools.product(range(-4, 7), repeat=many):
                        point = {**dict(zip(region.names, values)), **sizes}
                        self.assertEqual(point in region, made.get((path, values)) == 0)

    def test_errors(self):
        for path in ((), (1,), [0], (0, 0, 0), (True,)):
            with self.assertRaises(NoNode) as caught:
                empty_rounds(BLUR, path)
            self.assertEqual(caught.exception.path, path)
        for path in ((0, 0), (0, 1), (0, 1, 0)):
            with self.assertRaises(NoLoop) as caught:
                empty_rounds(BLUR, path)
            self.assertEqual(caught.exception.path, path)


if __name__ == "__main__":
    unittest.main()
