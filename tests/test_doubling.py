"""[16]: names of runs, doubled nests."""

import random
import unittest

from loopsheds.doubling import check_single, where_single
from loopsheds.faults import Doubled, NoPlace
from loopsheds.finals import carried, finals, needs, unread
from loopsheds.nests import Nest, statements
from loopsheds.papers import Paper, paper
from loopsheds.reading import read_nest
from loopsheds.running import runs
from loopsheds.sources import sources
from tests.nesting import Maker, small_sizes


def doubled_label(nest, high):
    """The label of the first statement with a doubled run at small sizes, and the sizes without doubles."""
    first = None
    single = []
    for sizes in small_sizes(nest, high):
        places = {}
        for run in runs(nest, sizes):
            places.setdefault(run.name, []).append(run.place)
        found = [min(row) for row in places.values() if len(row) > 1]
        if found:
            first = min([*found, *([] if first is None else [first])])
        else:
            single.append(sizes)
    return None if first is None else statements(nest)[first].label, single


def shuffled(nest, rng):
    """The nest with other stamps, and perhaps with one label for several statements."""
    def changed(node, counters):
        if node[0] == "run":
            label = rng.choice(["f", node[1]]) if rng.random() < 0.5 else node[1]
            stamp = tuple((name, rng.randint(-1, 1)) for name in rng.sample(counters, min(len(counters), 1)))
            stamp = (*stamp, *[("0", 0)] * (1 - len(stamp)), (rng.choice([*counters, "n", "0"]), 0))
            return ("run", label, stamp, node[3], ())
        inner = [*counters, node[1]] if node[0] == "loop" else counters
        return (*node[:-1], tuple(changed(child, inner) for child in node[-1]))
    return Nest(nest.sizes, nest.given, {}, nest.kept, tuple(changed(node, []) for node in nest.body))


class DoublingTest(unittest.TestCase):
    def test_one_statement(self):
        nest = read_nest('sizes n\nup i from 1 to n\n  f(): a[i] =\n')
        self.assertEqual(where_single(nest).spread("n"), [(0, 1)])
        with self.assertRaises(Doubled) as caught:
            check_single(nest)
        self.assertEqual(caught.exception.label, "f")
        self.assertIsNone(check_single(read_nest('sizes n\nup i from 1 to n\n  f(i): a[i] =\n')))

    def test_the_first_label(self):
        nest = read_nest('sizes n\nup i from 0 to n\n  g(i): a[] =\n  f(i): a[] =\nup j from 0 to n\n  h(): a[] =\n'
                         'up k from 5 to n\n  f(k): a[] =\nh(): a[] =\n')
        with self.assertRaises(Doubled) as caught:
            check_single(nest)
        self.assertEqual(caught.exception.label, "f")
        self.assertFalse(where_single(nest))
        self.assertEqual(where_single(nest).names, ("n",))
        late = read_nest('sizes n\ng(1): a[] =\nf(1): a[] =\nup k from 5 to n\n  g(k): a[] =\nup k from 1 to n\n'
                         '  f(k): a[] =\n')
        with self.assertRaises(Doubled) as caught:
            check_single(late)
        self.assertEqual(caught.exception.label, "f")
        self.assertEqual(where_single(late).spread("n"), [(0, 0)])

    def test_only_sizes_as_given(self):
        text = 'sizes n, m\ngiven n <= 1\nup i from 1 to n\n  f(m): a[i] =\n'
        self.assertIsNone(check_single(read_nest(text)))
        self.assertTrue(where_single(read_nest(text)).same(where_single(read_nest('sizes n, m\ngiven n <= 1\n'))))
        none = read_nest('sizes n\ngiven n <= -1\nf(): a[] =\nf(): a[] =\n')
        self.assertIsNone(check_single(none))
        self.assertFalse(where_single(none))
        self.assertEqual(where_single(none).names, ("n",))

    def test_great_sizes(self):
        nest = read_nest('sizes n\nup i from 9000 to n\n  f(0): a[i] =\nup i from 3 to n - 9999\n  f(i): a[0] =\n')
        self.assertEqual(where_single(nest).spread("n"), [(0, 9000)])

    def test_empty(self):
        nest = read_nest('sizes n, m\n')
        self.assertIsNone(check_single(nest))
        self.assertIn({"n": 0, "m": 0}, where_single(nest))
        self.assertNotIn({"n": 0, "m": -1}, where_single(nest))

    def test_many_nests(self):
        seen = set()
        for seed in range(250):
            rng = random.Random(seed)
            nest = shuffled(Maker(rng).nest(), rng)
            label, single = doubled_label(nest, 5)
            region = where_single(nest)
            for sizes in small_sizes(nest, 5):
                self.assertEqual(sizes in region, sizes in single, seed)
            found = None
            try:
                check_single(nest)
            except Doubled as error:
                found = error.label
            if label is not None or region.same(where_single(Nest(nest.sizes, nest.given, {}, (), ()))):
                self.assertEqual(found, label, seed)
            seen.add(found)
        self.assertLess({None, "f"}, seen)

    def test_all_that_refuse(self):
        nest = read_nest('sizes n\nkeep a\nup i from 1 to n\n  g(i): a[i] = a[i]\n  f(): a[i] = a[i - 1]\n')
        for call in (lambda: sources(nest, 0, 0), lambda: paper(nest, 0, 0), lambda: Paper([]).shows(nest, 0, 0),
                     lambda: finals(nest, "a"), lambda: needs(nest, "a"), lambda: unread(nest, 0),
                     lambda: carried(nest, 0, 0)):
            with self.assertRaises(Doubled) as caught:
                call()
            self.assertEqual(caught.exception.label, "f")
        for call in (lambda: sources(nest, 0, 1), lambda: paper(nest, 2, 0), lambda: Paper([]).shows(nest, -1, 0),
                     lambda: finals(nest, "b"), lambda: needs(nest, "b"), lambda: unread(nest, 2),
                     lambda: carried(nest, 0, 1)):
            with self.assertRaises(NoPlace):
                call()


if __name__ == "__main__":
    unittest.main()
