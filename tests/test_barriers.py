"""[22]: cuts between the children of a loop, and evidence of them."""

import itertools
import random
import unittest

from loopsheds.barriers import Cuts, Uncut, fewest_cuts, where_cut
from loopsheds.faults import Doubled, NoMove, NoNode
from loopsheds.freedom import where_free
from loopsheds.moves import moved
from loopsheds.nests import Nest
from loopsheds.reading import read_nest
from tests.makers import families
from tests.nesting import failing, small_sizes
from tests.test_freedom import Tale

STEPS = read_nest('sizes n\nkeep c\nup i from 1 to n\n  f(i): a[i] = b[i]\n  g(i): c[i] = a[i - 1]\n')
WALK = read_nest('sizes n\nkeep a\nup i from 1 to n\n  f(i): a[i] = a[i - 1]\n')
THREE = read_nest('sizes n, m\ngiven m <= n\nkeep c\nup j from 0 to m\n  f(j): t[] = t[]\nup i from 1 to n\n'
                  '  f(i): a[i] = b[i]\n  g(i): b[i] = b[i]\n  h(i): c[i] = a[i - 1], a[m]\n')


def parted(nest, path, cuts):
    for cut in reversed(cuts):
        nest = moved(nest, ("part", path, cut))
    return nest


def is_free_at(nest, path, sizes):
    """Whether no order of the runs of one entry changes something; asked of the package if there are very many."""
    tale = Tale(nest, path, sizes)
    for entry in tale.entries:
        orders = tale.orders(entry, "mixed")
        if orders is None:
            return sizes in where_free(nest, path, "mixed")
        if any(tale.changes(order) for order in orders):
            return False
    return True


def is_right_at(nest, path, cuts, sizes):
    late = parted(nest, path, cuts)
    if failing(nest, late, sizes):
        return False
    return all(is_free_at(late, (*path[:-1], path[-1] + at), sizes) for at in range(len(cuts) + 1))


class CutsTest(unittest.TestCase):
    def test_example(self):
        told = fewest_cuts(STEPS, (0,))
        self.assertIsInstance(told, Cuts)
        self.assertEqual((told.chosen, told.against), ((1,), {(): {"n": 2}}))
        self.assertTrue(told.shows(STEPS, (0,)))
        self.assertEqual(where_cut(STEPS, (0,), ()).spread("n"), [(0, 1)])
        self.assertEqual(where_cut(STEPS, (0,), (1,)).spread("n"), [(0, None)])

    def test_no_cuts_and_all_cuts(self):
        told = fewest_cuts(WALK, (0,))
        self.assertIsInstance(told, Uncut)
        self.assertEqual(told.against, {(): {"n": 2}})
        self.assertTrue(told.shows(WALK, (0,)))
        nest = read_nest('sizes n\nkeep d\nup i from 1 to n\n  f(i): a[i] = b[i]\n  g(i): b[i] = a[i - 1]\n'
                         '  h(i): d[i] = b[i - 1]\n')
        told = fewest_cuts(nest, (0,))
        self.assertEqual(told.chosen, (1, 2))
        self.assertEqual(list(told.against), [(), (1,), (2,)])
        alone = read_nest('sizes n\nup i from 1 to n\n  f(i): a[i] = b[i]\n')
        self.assertEqual((fewest_cuts(alone, (0,)).chosen, fewest_cuts(alone, (0,)).against), ((), {}))

    def test_rows_in_order(self):
        body = "".join(f"  s{at}(i): {'abcdef'[at]}[i] = {'zabcde'[at]}[i + 1]\n" for at in range(6))
        told = fewest_cuts(read_nest(f'sizes n\nkeep f\nup i from 1 to n\n{body}'), (0,))
        self.assertIsInstance(told, Uncut)
        rows = [row for many in range(6) for row in itertools.combinations(range(1, 6), many)]
        self.assertEqual(list(told.against), rows)

    def test_no_sizes_keep_what_is_given(self):
        never = Nest(("n",), (("n", "0", -1),), {}, ("a",), WALK.body)
        self.assertEqual(fewest_cuts(never, (0,)).chosen, ())
        self.assertFalse(where_cut(never, (0,), ()))
        self.assertTrue(Cuts((), {}).shows(never, (0,)))

    def test_great_sizes(self):
        nest = read_nest('sizes n\nkeep c\nup i from 1 to n\n  f(i): a[i] = b[i]\n  g(i): c[i] = a[i - 5000]\n')
        self.assertEqual(fewest_cuts(nest, (0,)).against, {(): {"n": 5001}})

    def test_runs_at_small_sizes(self):
        rng = random.Random(22)
        for _ in range(40):
            nest = families(rng)
            path = (0,)
            many = len(nest.body[0][5])
            sizes = small_sizes(nest, 3 if len(nest.sizes) == 1 else 2)
            wrong = {}
            for count in range(many):
                for cuts in itertools.combinations(range(1, many), count):
                    region = where_cut(nest, path, cuts)
                    wrong[cuts] = [one for one in sizes if not is_right_at(nest, path, cuts, one)]
                    self.assertEqual([one for one in sizes if one not in region], wrong[cuts])
                    outside = {name: -1 for name in nest.sizes}
                    self.assertNotIn(outside, region)
            told = fewest_cuts(nest, path)
            self.assertTrue(told.shows(nest, path))
            for cuts, least in told.against.items():
                if wrong[cuts]:
                    self.assertLessEqual(list(least.values()), list(wrong[cuts][0].values()))
                if least in sizes:
                    self.assertEqual(least, wrong[cuts][0])
            if isinstance(told, Cuts):
                self.assertFalse(wrong[told.chosen])
                self.assertEqual(list(told.against), list(wrong)[:list(wrong).index(told.chosen)])
            else:
                self.assertEqual(list(told.against), list(wrong))

    def test_what_does_not_show(self):
        self.assertTrue(Cuts((1,), {(): {"n": 3}}).shows(STEPS, (0,)))
        for chosen, against in (((), {}), ((1,), {}), ((1,), {(): {"n": 1}}), ((1,), {(): {"n": 2}, (1,): {"n": 2}}),
                                ((1,), {(2,): {"n": 2}}), ((1,), {(): {}}), ((1,), {(): {"n": 2, "m": 2}}),
                                ((1,), {(): {"n": True}}), ((1,), {(): {"n": "2"}}), ((1,), {(): None}),
                                ((1,), {(): [2]}), ((1,), {(): {"m": 2}}), ((1,), {(): {"n": -2}}),
                                ((True,), {(): {"n": 2}}), (("1",), {(): {"n": 2}}), ((2,), {(): {"n": 2}}),
                                ((1, 1), {(): {"n": 2}}), ((((),),), {(): {"n": 2}}), ((1,), {None: {"n": 2}})):
            self.assertFalse(Cuts(chosen, against).shows(STEPS, (0,)), (chosen, against))
        for against in ({}, {(): {"n": 2}, (1,): {"n": 2}}, {(): {"n": 1}}, {(1,): {"n": 2}}):
            self.assertFalse(Uncut(against).shows(WALK, (0,)))
        self.assertFalse(Uncut({(): {"n": 2}}).shows(STEPS, (0,)))
        self.assertFalse(Uncut({(): {"n": 2}, (1,): {"n": 2}}).shows(STEPS, (0,)))
        self.assertFalse(Uncut({(True,): {"n": 2}}).shows(WALK, (0,)))

    def test_evidence_is_copied(self):
        sizes = {"n": 2}
        against = {(): sizes}
        told = Cuts((1,), against)
        sizes["n"] = 0
        against[(1,)] = {}
        self.assertEqual(told.against, {(): {"n": 2}})

    def test_errors(self):
        for path in ((), (2,), [0], (0, 0, 0), (True,)):
            for call in (lambda: where_cut(THREE, path, (9,)), lambda: fewest_cuts(THREE, path),
                         lambda: Cuts((), {}).shows(THREE, path), lambda: Uncut({}).shows(THREE, path)):
                with self.assertRaises(NoNode) as caught:
                    call()
                self.assertEqual(caught.exception.path, path)
        for call in (lambda: where_cut(THREE, (0, 0), (9,)), lambda: fewest_cuts(THREE, (0, 0)),
                     lambda: Cuts((), {}).shows(THREE, (0, 0)), lambda: Uncut({}).shows(THREE, (0, 0))):
            with self.assertRaises(NoMove) as caught:
                call()
            self.assertEqual(caught.exception.kind, "free")
        for call in (lambda: where_cut(THREE, (1,), (9,)), lambda: fewest_cuts(THREE, (1,)),
                     lambda: Cuts((), {}).shows(THREE, (1,)), lambda: Uncut({}).shows(THREE, (1,))):
            with self.assertRaises(Doubled) as caught:
                call()
            self.assertEqual(caught.exception.label, "f")
        for cuts in ((0,), (2,), (1, 1), [1], (True,), ("1",), (-1,), None, (1, 0)):
            with self.assertRaises(NoMove) as caught:
                where_cut(STEPS, (0,), cuts)
            self.assertEqual(caught.exception.kind, "cut")

    def test_paths(self):
        deep = read_nest('sizes n\nkeep c\nwhen 0 <= n\n  up j from 0 to 1\n    up i from 1 to n\n'
                         '      f(i, j): a[i] = b[i]\n      g(i, j): c[i] = a[i - 1]\n')
        self.assertEqual(fewest_cuts(deep, (0, 0, 0)).chosen, (1,))
        late = read_nest('sizes n\nkeep c\nf(0): c[0] = b[0]\nup j from 0 to 1\n  k(j): d[j] =\n  g(j): d[j] =\n'
                         '  up i from 1 to n\n    h(i, j): a[i] = b[i]\n    l(i, j): c[i] = a[i - 1]\n')
        self.assertEqual((fewest_cuts(late, (1, 2)).chosen, fewest_cuts(late, (1, 2)).against), ((1,), {(): {"n": 2}}))
        self.assertEqual(where_cut(late, (1, 2), ()).spread("n"), [(0, 1)])


if __name__ == "__main__":
    unittest.main()
