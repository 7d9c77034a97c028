"""[28]: sizes at which a nest may go by times."""

import random
import unittest

from loopsheds.agreeing import where_agree
from loopsheds.errors import BadName, BadTimes
from loopsheds.faults import Doubled
from loopsheds.legal import where_legal, where_ordered
from loopsheds.nests import statements
from loopsheds.reading import read_nest
from loopsheds.running import runs
from loopsheds.scanning import scan
from loopsheds.times import order_times
from tests.makers import families, neighbours, some_times, time_of
from tests.nesting import Maker, failing, small_sizes

BLUR = read_nest("sizes n\nup i from 0 to n\n  f(i): t[i] = x[i]\n  when 1 <= i\n    g(i): b[i] = t[i], t[i - 1]\n")
SELF = read_nest("sizes n\nup i from 0 to n\n  f(i): t[i] = t[i]\n")


def is_ordered(nest, times, sizes):
    """Whether all two runs that access one cell, and one writes it, go by the times as they do in the nest."""
    found = list(runs(nest, sizes))
    keys = [time_of(nest, times, run, sizes) for run in found]
    for at, run in enumerate(found):
        for late, other in list(enumerate(found))[at + 1:]:
            if run.writes in (other.writes, *other.reads) or other.writes in run.reads:
                if not keys[at] < keys[late]:
                    return False
    return True


class LegalTest(unittest.TestCase):
    def test_example(self):
        times = [(("i", 0), ("0", 1)), (("i", 0), ("0", 0))]
        self.assertEqual(where_ordered(BLUR, times).spread("n"), [(0, 0)])
        self.assertEqual(where_legal(BLUR, times, counters=("p", "q")).spread("n"), [(0, 0)])

    def test_equal_times(self):
        self.assertEqual(where_ordered(BLUR, [(("i", 0),), (("i", 0),)]).spread("n"), [(0, None)])
        self.assertEqual(where_ordered(BLUR, [(("i", 1),), (("i", 0),)]).spread("n"), [(0, 0)])
        self.assertEqual(where_ordered(BLUR, [(("0", 0),), (("0", 0),)]).spread("n"), [(0, None)])
        same = read_nest("sizes n\nup i from 0 to n\n  f(i): t[] =\n")
        self.assertEqual(where_ordered(same, [(("0", 0),)]).spread("n"), [(0, 0)])
        self.assertEqual(where_ordered(SELF, [(("0", 7),)]).spread("n"), [(0, None)])

    def test_legal_is_more_than_ordered(self):
        nest = read_nest("sizes n\nup i from 0 to n\n  f(i): t[] =\n  g(i): b[i] = t[]\n")
        times = [(("i", 0), ("0", 0)), (("i", 0), ("0", 1))]
        self.assertEqual(where_legal(nest, times, counters=("p", "q")).spread("n"), [(0, None)])
        dead = read_nest("sizes n\nf(0): t[] =\ng(0): t[] =\n")
        swapped = [(("0", 1),), (("0", 0),)]
        self.assertFalse(where_ordered(dead, swapped))
        self.assertEqual(where_legal(dead, swapped, counters=("p",)).spread("n"), [(0, None)])

    def test_great_numbers(self):
        nest = read_nest("sizes n\nup i from 0 to n\n  f(i): t[i] =\nup i from 0 to n\n  g(i): b[i] = t[i - 9000]\n")
        self.assertEqual(where_ordered(nest, [(("i", 9001),), (("i", 0),)]).spread("n"), [(0, 8999)])
        self.assertEqual(where_ordered(nest, [(("i", 9000),), (("i", 0),)]).spread("n"), [(0, None)])

    def test_sizes_that_keep_what_is_given(self):
        nest = BLUR.supposing(("0", "n", -2), ("n", "0", 4))
        self.assertEqual(where_ordered(nest, order_times(nest)).spread("n"), [(2, 4)])
        self.assertEqual(where_legal(nest, order_times(nest), counters=tuple("pqrs")).spread("n"), [(2, 4)])
        self.assertFalse(where_ordered(BLUR.supposing(("n", "0", -1)), order_times(BLUR)))

    def test_runs_at_small_sizes(self):
        rng = random.Random(281)
        for turn in range(100):
            nest = (Maker(rng).nest, lambda: neighbours(rng), lambda: families(rng))[turn % 3]()
            if len(statements(nest)) > 4:
                continue
            times = some_times(rng, nest)
            names = [f"p{at}" for at in range(len(times[0]))]
            ordered, legal = where_ordered(nest, times), where_legal(nest, times, counters=names)
            self.assertTrue(ordered.within(legal))
            late = scan(nest, times, counters=names)
            self.assertTrue(legal.same(where_agree(nest, late)))
            for sizes in small_sizes(nest, 5 - len(nest.sizes)):
                self.assertEqual(sizes in ordered, is_ordered(nest, times, sizes))
                self.assertEqual(sizes in legal, not failing(nest, late, sizes))
            self.assertNotIn({name: -1 for name in nest.sizes}, legal)

    def test_large_scanned_nests(self):
        """Nests are compared by their runs, however many statements there are when one is scanned."""
        lines = ["sizes n, m", "keep a"]
        for at in range(6):
            lines.append("  " * at + f"up c{at} from 0{f', c{at - 1} - 1, c0 - {at + 1}' if at else ''} to n, m")
        lines.append("  " * 6 + "f(c0, c1, c2, c3, c4, c5): a[c5] = a[c5 - 1]")
        nest = read_nest("\n".join(lines))
        times = [(("c5", 0), *[(f"c{at}", 0) for at in range(5)])]
        names = [f"p{at}" for at in range(6)]
        late = scan(nest, times, counters=names)
        self.assertGreater(len(statements(late)), 90)
        legal = where_legal(nest, times, counters=names)
        for sizes in ({"n": 0, "m": 5}, {"n": 5, "m": 0}, {"n": 1, "m": 1}, {"n": 2, "m": 1}, {"n": 2, "m": 2}):
            self.assertEqual(sizes in legal, not failing(nest, late, sizes))
        self.assertEqual(legal.fixed({"m": 7}).spread("n"), [(0, 0)])

    def test_errors(self):
        good = (("i", 0), ("0", 0))
        for times, place in (([], 0), ([good], 1), ([good, ()], 1), ([good, (("j", 0), ("0", 0))], 1),
                             ([good, (("i", 0),)], 1), ([good] * 3, 2), ([None, good], 0), ([good, [("i", 10000)]], 1)):
            for call in (lambda: where_ordered(BLUR, times), lambda: where_legal(BLUR, times, counters=("N", "N"))):
                with self.assertRaises(BadTimes) as caught:
                    call()
                self.assertEqual(caught.exception.place, place)
        for counters, name in ((("N", "p"), "N"), (("p", "n"), "n"), (("p", "p"), "p"), (("p",), None)):
            with self.assertRaises(BadName) as caught:
                where_legal(BLUR, [(("0", 0), ("0", 0)), good], counters=counters)
            self.assertEqual(caught.exception.name, name)
        with self.assertRaises(Doubled) as caught:
            where_legal(BLUR, [good, (("0", 0), ("n", 0))], counters=("p", "q"))
        self.assertEqual(caught.exception.label, "g")


if __name__ == "__main__":
    unittest.main()
