"""[19]: nests that agree."""

import random
import unittest

from loopsheds.agreeing import Verdict, agree, where_agree
from loopsheds.errors import Unlike
from loopsheds.faults import Doubled
from loopsheds.nests import Nest
from loopsheds.reading import read_nest
from loopsheds.running import play
from loopsheds.meanings import cell_names
from tests.helpers import holds
from tests.nesting import Maker, failing, small_sizes, varied

WALK = read_nest('sizes n\nkeep a\nup i from 1 to n\n  f(i): a[i] = a[i - 1]\n')
BACK = read_nest('sizes n\nkeep a\ndown i from 1 to n\n  f(i): a[i] = a[i - 1]\n')


def told(verdict):
    return (verdict.is_same, verdict.sizes, verdict.kind)


class AgreeingTest(unittest.TestCase):
    def check(self, first, second, high):
        """The region and the verdict, against the runs at small sizes."""
        region = where_agree(first, second)
        verdict = agree(first, second)
        self.assertIsInstance(verdict, Verdict)
        self.assertEqual(bool(verdict), verdict.is_same)
        self.assertEqual(region.names, first.sizes)
        least = None
        for sizes in small_sizes(first, high):
            if not holds(second.given, sizes):
                self.assertNotIn(sizes, region)
                continue
            fails = failing(first, second, sizes)
            self.assertEqual(sizes in region, not fails, sizes)
            if fails and least is None:
                least = (False, sizes, fails[0])
        if least is not None and sum(least[1].values()) <= high:
            self.assertEqual(told(verdict), least)
        elif verdict.is_same:
            self.assertEqual((told(verdict), least), ((True, None, ""), None))
        else:
            self.assertEqual(failing(first, second, verdict.sizes)[0], verdict.kind)
        return verdict.kind

    def test_walk(self):
        self.assertEqual(told(agree(WALK, BACK)), (False, {"n": 2}, "reads"))
        self.assertEqual(where_agree(WALK, BACK).spread("n"), [(0, 1)])
        self.assertEqual(told(agree(WALK, WALK)), (True, None, ""))
        self.assertEqual(where_agree(WALK, WALK).spread("n"), [(0, None)])
        self.assertIs(bool(agree(WALK, BACK)), False)

    def test_kinds(self):
        head = 'sizes n\nkeep a\n'
        nest = read_nest(head + 'up i from 0 to n\n  f(i): a[i] = b[i]\n')
        for body, kind, sizes in (
                ('up i from 0 to n\n  f(i): a[i + 1] = b[i]\n', "kept", {"n": 0}),
                ('up i from 0 to n\n  f(i): a[i] = c[i]\n', "reads", {"n": 0}),
                ('up i from 0 to n\n  f(i): a[i] = b[i + 1]\n', "reads", {"n": 0}),
                ('up i from 0 to n\n  f(i): a[i] = b[]\n', "reads", {"n": 0}),
                ('up i from 0 to n - 1\n  f(i): a[i] = b[i]\n', "runs", {"n": 0}),
                ('up i from 0 to n\n  f(i): a[i] = b[i]\nup i from 5 to n\n  g(i): z[] =\n', "runs", {"n": 5}),
                ('up i from 0 to n, 7\n  f(i): a[i] = b[i]\n', "runs", {"n": 8}),
                ('up i from 0 to n\n  f(i): b[i] = b[i]\n', "kept", {"n": 0}),
                ('up i from 0 to n\n  f(i + 0): a[i] = b[i]\n  g(i): b[0] =\n', "runs", {"n": 0}),
                ('', "runs", {"n": 0}), ('down k from 0 to n\n  f(k): a[k] = b[k]\n', "", None),
                ('up i from 3 to n + 3\n  f(i - 3): a[i - 3] = b[i - 3]\n', "", None)):
            other = read_nest(head + body)
            for one, two in ((nest, other), (other, nest)):
                self.assertEqual((agree(one, two).kind, agree(one, two).sizes), (kind, sizes), body)
                self.check(one, two, 5)

    def test_many_nests(self):
        kinds = {}
        for seed in range(300):
            rng = random.Random(seed)
            nest = Maker(rng).nest()
            kind = self.check(nest, varied(rng, nest), 4)
            kinds[kind] = kinds.get(kind, 0) + 1
        for kind in ("", "runs", "reads", "kept"):
            self.assertGreater(kinds[kind], 5)

    def test_runs_that_only_one_has_are_not_read(self):
        one = read_nest('sizes n\nf(): a[] =\ng(): b[] = a[]\n')
        two = read_nest('sizes n\nk(): a[] =\ng(): b[] = a[]\n')
        self.assertEqual(agree(one, two).kind, "runs")
        self.assertEqual(failing(one, two, {"n": 0}), ["runs", "reads"])

    def test_givens(self):
        body = 'up i from 1 to n\n  f(i): a[i] = a[i - 1]\n'
        down = body.replace("up", "down")
        first = read_nest('sizes n\nkeep a\ngiven n <= 3\n' + body)
        second = read_nest('sizes n\nkeep a\ngiven 3 <= n\n' + down)
        self.assertEqual(told(agree(first, second)), (False, {"n": 3}, "reads"))
        self.assertFalse(where_agree(first, second))
        late = read_nest('sizes n\nkeep a\ngiven 4 <= n\n' + down)
        self.assertEqual(told(agree(first, late)), (True, None, ""))
        self.assertFalse(where_agree(first, late))
        small = read_nest('sizes n\nkeep a\ngiven n <= 1\n' + down)
        self.assertTrue(agree(first, small))
        self.assertEqual(where_agree(WALK, small).spread("n"), [(0, 1)])
        none = read_nest('sizes n\nkeep a\ngiven n <= -1\n')
        self.assertTrue(agree(WALK, none))
        self.assertTrue(agree(none, WALK))
        self.assertFalse(where_agree(none, none))

    def test_great_sizes(self):
        first = read_nest('sizes n, m\nkeep a\ngiven n == m + 9000\nup i from 0 to m - 2000\n  f(i): a[9000] = a[9999]\n')
        second = read_nest(
            'sizes n, m\nkeep a\nup i from 0 to m - 2000\n  f(i): a[n] = a[9999]\n')
        self.assertEqual(told(agree(first, second)), (False, {"n": 11000, "m": 2000}, "kept"))
        self.assertEqual(where_agree(first, second).spread("m"), [(0, 1999)])

    def test_kept_arrays_that_do_not_occur(self):
        one = read_nest('sizes n\nkeep a, q\nf(): a[] =\n')
        two = read_nest('sizes n\nkeep a, q\nf(): q[1, 2] =\n')
        self.assertEqual(agree(one, two).kind, "kept")
        self.assertEqual(agree(one, one).kind, "")
        three = read_nest('sizes n\nkeep a, q\nroom q[0 .. 5]\nf(): a[] =\n')
        self.assertTrue(agree(one, three))
        self.assertTrue(agree(three, one))

    def test_unlike(self):
        base = 'sizes n, m\nkeep a, b\nf(n): a[n] = t[]\n'
        for text, what in (
                ('sizes m, n\nkeep b\nf(n): a[n, n] =\n', "sizes"), ('sizes n\nkeep a\n', "sizes"),
                ('sizes n, m\nkeep b, a\nf(): a[n, n] =\n', "kept"), ('sizes n, m\nf(): a[n, n] =\n', "kept"),
                ('sizes n, m\nkeep a, b\nf(): a[n, n] = t[]\n', "labels"),
                ('sizes n, m\nkeep a, b\nf(n): a[n, n] =\n', "labels"),
                ('sizes n, m\nkeep a, b\ng(n): t[] =\nf(n, m): a[n] = t[]\n', "labels"),
                ('sizes n, m\nkeep a, b\nf(n): a[n, n] = t[]\nf(n): t[] = t[]\n', "arrays"),
                ('sizes n, m\nkeep a, b\nroom a[]\n', "arrays")):
            for pair in ((read_nest(base), read_nest(text)), (read_nest(text), read_nest(base))):
                for call in (agree, where_agree):
                    with self.assertRaises(Unlike) as caught:
                        call(*pair)
                    self.assertEqual(caught.exception.what, what, text)
        self.assertFalse(agree(read_nest(base), read_nest('sizes n, m\nkeep a, b\nf(n): a[n] = t[1]\n')))

    def test_doubled(self):
        head = 'sizes n\nkeep a\n'
        fine = read_nest(head + 'f(): a[] =\n')
        bad = read_nest(head + 'up i from 1 to n\n  f(): a[] =\n')
        worse = read_nest(head + 'up i from 1 to n\n  g(): a[] =\n')
        for first, second, label in ((bad, fine, "f"), (fine, bad, "f"), (bad, worse, "f"), (worse, bad, "g")):
            for call in (agree, where_agree):
                with self.assertRaises(Doubled) as caught:
                    call(first, second)
                self.assertEqual(caught.exception.label, label)

    def test_names_of_sources_by_value(self):
        """One name may be told by numbers, sizes and counters."""
        tail = 'r(): a[] = t[]\n'
        texts = ['g(1, n + 1): t[] =\n', 'up i from 1 to 1\n  g(i, n + 1): t[] =\n',
                 'up i from n - 2 to n - 2\n  g(1, i + 3): t[] =\n',
                 'down k from n to n\n  up i from 2 to 2\n    g(i - 1, k + 1): t[] =\n']
        nests = [read_nest('sizes n\nkeep a\n' + text + tail) for text in texts]
        for one in nests:
            for two in nests:
                self.assertEqual(told(agree(one, two)), (True, None, ""))
        other = read_nest('sizes n\nkeep a\ng(1, n + 1): z[] =\ng(2, n + 1): t[] =\n' + tail)
        both = read_nest('sizes n\nkeep a\ng(2, n + 1): z[] =\nup i from 1 to 1\n  g(i, n + 1): t[] =\n' + tail)
        self.assertEqual(told(agree(other, both)), (False, {"n": 0}, "reads"))

    def test_plays_are_the_same_where_nests_agree(self):
        seen = set()
        for seed in range(150):
            rng = random.Random(seed)
            first = Maker(rng).nest()
            second = varied(rng, first)
            region = where_agree(first, second)
            for sizes in small_sizes(first, 3):
                if not holds(second.given, sizes) or "runs" in failing(first, second, sizes):
                    continue
                plays = [self.traced(nest, sizes) for nest in (first, second)]
                self.assertEqual(plays[0] == plays[1], sizes in region)
                seen.add(sizes in region)
        self.assertEqual(seen, {True, False})

    def traced(self, nest, sizes):
        def meaning(label, numbers, values):
            return (label, numbers, tuple(values))
        told_all = play(nest, sizes, meaning, cell_names)
        kept = {cell: worth for cell, worth in told_all.cells.items() if cell[0] in nest.kept}
        return sorted(told_all.log, key=repr), kept

    def test_names_do_not_matter(self):
        first = read_nest('sizes first, run, x0\nkeep f\nup c from 1 to run\n  f(c): f[c] = f[c - 1], c[first]\n')
        second = read_nest('sizes first, run, x0\nkeep f\nup i from 1 to run\n  f(i): f[i] = f[i - 1], c[first]\n')
        self.assertTrue(agree(first, second))
        third = read_nest('sizes first, run, x0\nkeep f\nup x from 1 to run\n  f(x): f[x] = f[x - 1], c[run]\n')
        self.assertEqual(told(agree(first, third)), (False, {"first": 0, "run": 1, "x0": 0}, "reads"))

    def test_verdicts_are_new(self):
        verdict = agree(WALK, BACK)
        verdict.sizes.clear()
        self.assertEqual(agree(WALK, BACK).sizes, {"n": 2})
        self.assertTrue(agree(Nest(("n",), (), {}, (), ()), Nest(("n",), (), {}, (), ())))


if __name__ == "__main__":
    unittest.main()
