"""[23]: arrays of which each round of a loop has a copy."""

import itertools
import random
import unittest

from loopsheds.copies import Bound, Copies, fewest_copies, own_arrays, where_copied
from loopsheds.faults import Doubled, NoMove, NoNode, NoPlace
from loopsheds.moves import followed
from loopsheds.nests import Nest
from loopsheds.reading import read_nest
from tests.makers import families
from tests.nesting import Maker, failing, paths_of, small_sizes
from tests.test_barriers import is_free_at

SCRATCH = read_nest('sizes n\nkeep a\nup i from 1 to n\n  f(i): t[] = a[i]\n  g(i): a[i] = t[]\n')
WALK = read_nest('sizes n\nkeep a\nup i from 1 to n\n  f(i): a[i] = a[i - 1]\n')
TWICE = read_nest('sizes n\nup i from 0 to n\n  f(0): t[] =\n')


class CopiesTest(unittest.TestCase):
    def test_example(self):
        told = fewest_copies(SCRATCH, (0,))
        self.assertIsInstance(told, Copies)
        self.assertEqual((told.chosen, told.against), (("t",), {(): {"n": 2}}))
        self.assertTrue(told.shows(SCRATCH, (0,)))
        self.assertEqual(where_copied(SCRATCH, (0,), ()).spread("n"), [(0, 1)])
        self.assertEqual(where_copied(SCRATCH, (0,), ("t",)).spread("n"), [(0, None)])

    def test_own_arrays(self):
        nest = read_nest('sizes n\nkeep k\nroom r[0 .. n]\nup i from 0 to n\n  f(i): u[i, i, i, i] = t[i, i, i], x[]\n'
                         '  up j from 0 to i\n    g(i, j): k[j] = s[], b[j], b[0]\nh(0): c[] = x[]\n')
        self.assertEqual(own_arrays(nest, (0,)), ["b", "s", "t"])
        self.assertEqual(own_arrays(nest, (0, 1)), ["b", "s"])
        self.assertEqual(own_arrays(WALK, (0,)), [])

    def test_no_set_is_enough(self):
        told = fewest_copies(WALK, (0,))
        self.assertIsInstance(told, Bound)
        self.assertEqual(told.against, {(): {"n": 2}})
        self.assertTrue(told.shows(WALK, (0,)))
        nest = read_nest('sizes n\nup i from 1 to n\n  f(i): t[] = t[]\n')
        self.assertEqual(fewest_copies(nest, (0,)).against, {(): {"n": 2}, ("t",): {"n": 1}})

    def test_first_contents_are_those_of_other_cells(self):
        nest = read_nest('sizes n\nup i from 1 to n\n  f(i): b[i] = t[]\n')
        self.assertEqual(fewest_copies(nest, (0,)).chosen, ())
        self.assertEqual(where_copied(nest, (0,), ("t",)).spread("n"), [(0, 0)])

    def test_order_of_sets(self):
        body = "".join(f"  f{at}(i): {'abcde'[at]}[] = y[i]\n" for at in range(5))
        nest = read_nest(f'sizes n\nkeep y, z\nup i from 1 to n\n{body}  q(i): z[i] = a[], b[], c[], d[], e[]\n')
        told = fewest_copies(nest, (0,))
        rows = [row for many in range(5) for row in itertools.combinations("abcde", many)]
        self.assertEqual((told.chosen, list(told.against)), (tuple("abcde"), rows))
        self.assertTrue(told.shows(nest, (0,)))
        self.assertTrue(Copies(told.chosen, dict(reversed(told.against.items()))).shows(nest, (0,)))

    def test_great_sizes(self):
        nest = read_nest('sizes n\ngiven 3000 <= n\nkeep a\nup i from 1 to n - 4000\n  f(i): t[] = a[i]\n  g(i): a[i] = t[]\n')
        self.assertEqual(fewest_copies(nest, (0,)).against, {(): {"n": 4002}})
        self.assertEqual(where_copied(nest, (0,), ()).spread("n"), [(3000, 4001)])

    def test_runs_at_small_sizes(self):
        rng = random.Random(23)
        for turn in range(50):
            nest = families(rng) if turn % 2 else Maker(rng).nest()
            sizes = small_sizes(nest, 3 if len(nest.sizes) == 1 else 2)
            for path in [path for path, node in paths_of(nest) if node[0] == "loop"]:
                self.check(nest, path, sizes)

    def check(self, nest, path, sizes):
        own = own_arrays(nest, path)
        wrong = {}
        for many in range(len(own) + 1):
            for arrays in itertools.combinations(own, many):
                late = followed(nest, *[("expand", path, array) for array in arrays])
                wrong[arrays] = [one for one in sizes if failing(nest, late, one) or not is_free_at(late, path, one)]
                region = where_copied(nest, path, arrays)
                self.assertEqual([one for one in sizes if one not in region], wrong[arrays])
        told = fewest_copies(nest, path)
        self.assertTrue(told.shows(nest, path))
        for arrays, least in told.against.items():
            self.assertTrue(least == wrong[arrays][0] if wrong[arrays] and least in sizes else least not in sizes)
        if isinstance(told, Copies):
            self.assertFalse(wrong[told.chosen])
            self.assertEqual(list(told.against), list(wrong)[:list(wrong).index(told.chosen)])
        else:
            self.assertEqual(list(told.against), list(wrong))

    def test_what_does_not_show(self):
        for chosen, against in (((), {}), (("t",), {}), (("t",), {(): {"n": 1}}), (("a",), {(): {"n": 2}}),
                                (("t",), {(): {"n": 2}, ("t",): {"n": 2}}), (("t",), {("a",): {"n": 2}}),
                                (("t",), {(): {"n": True}}), (("t",), {(): 2}), (("t", "t"), {(): {"n": 2}}),
                                ((1,), {(): {"n": 2}}), (("t",), {1: {"n": 2}})):
            self.assertFalse(Copies(chosen, against).shows(SCRATCH, (0,)), (chosen, against))
        self.assertFalse(Bound({(): {"n": 2}}).shows(SCRATCH, (0,)))
        self.assertFalse(Bound({(): {"n": 2}, ("t",): {"n": 2}}).shows(SCRATCH, (0,)))
        self.assertFalse(Bound({}).shows(WALK, (0,)))
        self.assertTrue(Bound({(): {"n": 7}}).shows(WALK, (0,)))

    def test_evidence_is_copied(self):
        against = {(): {"n": 2}}
        told, bound = Copies(("t",), against), Bound(against)
        against[()]["n"] = 0
        self.assertEqual((told.against, bound.against), ({(): {"n": 2}}, {(): {"n": 2}}))

    def test_errors(self):
        calls = (lambda nest, path: own_arrays(nest, path), lambda nest, path: where_copied(nest, path, ("zz",)),
                 lambda nest, path: fewest_copies(nest, path), lambda nest, path: Copies((), {}).shows(nest, path),
                 lambda nest, path: Bound({}).shows(nest, path))
        for call in calls:
            for path in ((), (1,), [0], (0, 0, 0)):
                with self.assertRaises(NoNode) as caught:
                    call(TWICE, path)
                self.assertEqual(caught.exception.path, path)
            with self.assertRaises(NoMove) as caught:
                call(TWICE, (0, 0))
            self.assertEqual(caught.exception.kind, "free")
            with self.assertRaises(Doubled) as caught:
                call(TWICE, (0,))
            self.assertEqual(caught.exception.label, "f")
        for arrays in (["t"], ("a",), ("t", "t"), (1,), None, "t", ("zz",), (("t",),)):
            with self.assertRaises(NoPlace):
                where_copied(SCRATCH, (0,), arrays)

    def test_arrays_ascend(self):
        nest = read_nest('sizes n\nup i from 0 to n\n  f(i): s[] = t[]\n')
        self.assertEqual(own_arrays(nest, (0,)), ["s", "t"])
        where_copied(nest, (0,), ("s", "t"))
        with self.assertRaises(NoPlace):
            where_copied(nest, (0,), ("t", "s"))

    def test_no_sizes_keep_what_is_given(self):
        never = Nest(("n",), (("n", "0", -1),), {}, ("a",), SCRATCH.body)
        self.assertEqual(fewest_copies(never, (0,)).chosen, ())
        self.assertFalse(where_copied(never, (0,), ("t",)))


if __name__ == "__main__":
    unittest.main()
