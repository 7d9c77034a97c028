"""[23]: neighbouring loops fused to groups, and loops in other orders."""

import itertools
import random
import unittest

from loopsheds.agreeing import agree
from loopsheds.faults import Doubled, NoMove, NoNode, TooLarge
from loopsheds.freedom import where_free
from loopsheds.grouping import Groups, fewest_loops, free_outside, loop_orders, turned
from loopsheds.layouts import all_sizes
from loopsheds.moves import moved
from loopsheds.nests import Nest, node_at
from loopsheds.reading import read_nest
from tests.makers import neighbours, towers
from tests.nesting import failing, paths_of, small_sizes

TABLE = read_nest('sizes n\nkeep a\nup i from 1 to n\n  up j from 1 to n\n    f(i, j): a[i, j] = a[i - 1, j + 1]\n')
ROWS = read_nest('sizes n\nkeep b\nup i from 0 to n\n  f(i): a[i] =\nup i from 0 to n\n  g(i): b[i] = a[i + 1]\n')
TWICE = read_nest('sizes n\nup i from 0 to n\n  f(0): t[] =\nup i from 0 to n\n  f(0): t[] =\n')


def fused(nest, path, groups):
    at = path[-1]
    for many in groups:
        for _ in range(many - 1):
            nest = moved(nest, ("fuse", (*path[:-1], at)))
        at += 1
    return nest


def all_groups(many):
    rows = [row for count in range(1, many + 1) for row in itertools.product(range(1, many + 1), repeat=count)]
    return [row for row in rows if sum(row) == many]


class GroupsTest(unittest.TestCase):
    def test_example(self):
        told = fewest_loops(ROWS, (0,), 2)
        self.assertEqual((told.chosen, told.against), ((1, 1), {(2,): {"n": 1}}))
        self.assertTrue(told.shows(ROWS, (0,), 2))
        alone = fewest_loops(ROWS, (1,), 1)
        self.assertEqual((alone.chosen, alone.against), ((1,), {}))

    def test_order_of_groups(self):
        nest = read_nest('sizes n\nkeep e\n' + "".join(
            f"up i from 0 to n\n  s{at}(i): {'abcde'[at]}[i] = {'zabcd'[at]}[i + 1]\n" for at in range(5)))
        told = fewest_loops(nest, (0,), 5)
        self.assertEqual((told.chosen, list(told.against)), ((1,) * 5, all_groups(5)[:-1]))
        self.assertTrue(told.shows(nest, (0,), 5))
        self.assertEqual(fewest_loops(nest, (1,), 3).chosen, (1, 1, 1))

    def test_bounds_in_any_order(self):
        nest = read_nest('sizes n, m\nkeep b\ndown i from 0, m to n, 9\n  f(i): a[i] =\n'
                         'down i from m, 0 to 9, n\n  g(i): b[i] = a[i]\n')
        self.assertEqual(fewest_loops(nest, (0,), 2).chosen, (2,))

    def test_runs_at_small_sizes(self):
        rng = random.Random(231)
        seen = 0
        for _ in range(120):
            nest = neighbours(rng)
            sizes = small_sizes(nest, 4 if len(nest.sizes) == 1 else 3)
            for path, _ in paths_of(nest):
                for many in range(1, 6):
                    try:
                        told = fewest_loops(nest, path, many)
                    except NoMove as error:
                        self.assertEqual(error.kind, "fuse")
                        break
                    seen += many > 1
                    self.check(nest, path, many, told, sizes)
        self.assertGreater(seen, 20)

    def check(self, nest, path, many, told, sizes):
        rows = all_groups(many)
        ahead = rows[:rows.index(told.chosen)]
        self.assertEqual(list(told.against), ahead)
        self.assertTrue(told.shows(nest, path, many))
        self.assertFalse(any(failing(nest, fused(nest, path, told.chosen), one) for one in sizes))
        for row in ahead:
            wrong = [one for one in sizes if failing(nest, fused(nest, path, row), one)]
            if wrong:
                self.assertLessEqual(list(told.against[row].values()), list(wrong[0].values()))
            if told.against[row] in sizes:
                self.assertEqual(told.against[row], wrong[0])
            self.assertTrue(failing(nest, fused(nest, path, row), told.against[row]))
            self.assertFalse(Groups(row, told.against).shows(nest, path, many))
            fewer = {other: least for other, least in told.against.items() if other != row}
            self.assertFalse(Groups(told.chosen, fewer).shows(nest, path, many))

    def test_what_does_not_show(self):
        for chosen, against in (((2,), {}), ((1, 1), {}), ((1, 1), {(2,): {"n": 0}}), ((1, 1), {(2,): {"n": 1.0}}),
                                ((1, 1), {(2,): {"n": 1}, (1, 1): {"n": 1}}), ((1, True), {(2,): {"n": 1}}),
                                ((1, 1), {2: {"n": 1}}), ((3,), {(2,): {"n": 1}}), ((1, 1), {(2,): {"n": True}})):
            self.assertFalse(Groups(chosen, against).shows(ROWS, (0,), 2), (chosen, against))

    def test_errors(self):
        for call in (fewest_loops, Groups((1,), {}).shows):
            for path in ((), (2,), [0], (0, 0, 0)):
                with self.assertRaises(NoNode) as caught:
                    call(TWICE, path, 0)
                self.assertEqual(caught.exception.path, path)
            for path, many in (((0,), 0), ((0,), 3), ((0,), True), ((0,), "2"), ((1,), 2), ((0, 0), 1), ((0,), -1)):
                with self.assertRaises(NoMove) as caught:
                    call(TWICE, path, many)
                self.assertEqual(caught.exception.kind, "fuse")
            with self.assertRaises(Doubled) as caught:
                call(TWICE, (0,), 2)
            self.assertEqual(caught.exception.label, "f")

    def test_other_nodes_beside_them(self):
        nest = read_nest('sizes n\nup j from 0 to n\n  up k from 5 to n\n    f(j, k): c[k] =\n  up i from 0 to n\n'
                         '    g(j, i): a[i] =\n  up i from 0 to n\n    h(j, i): b[i] = a[i]\n  k(j): t[] =\n')
        self.assertEqual(fewest_loops(nest, (0, 1), 2).chosen, (2,))
        self.assertTrue(Groups((2,), {}).shows(nest, (0, 1), 2))
        for path, many in (((0, 0), 2), ((0, 1), 3), ((0, 2), 2), ((0, 3), 1)):
            with self.assertRaises(NoMove):
                fewest_loops(nest, path, many)

    def test_loops_have_to_be_alike(self):
        for other in ("up j from 0 to n", "down i from 0 to n", "up i from 1 to n", "up i from 0 to n, 3"):
            counter = other.split()[1]
            nest = read_nest(f'sizes n\nup i from 0 to n\n  f(i): a[i] =\n{other}\n  g({counter}): b[{counter}] =\n')
            with self.assertRaises(NoMove):
                fewest_loops(nest, (0,), 2)


class OrdersTest(unittest.TestCase):
    def test_example(self):
        self.assertEqual((loop_orders(TABLE, (0,), 2), free_outside(TABLE, (0,), 2)), ([(0, 1)], None))
        self.assertEqual(loop_orders(TABLE, (0, 0), 1), [(0,)])
        self.assertEqual(free_outside(TABLE, (0, 0), 1), (0,))

    def test_four_loops(self):
        nest = read_nest('sizes n\nkeep a\nup i from 1 to n\n  up j from 1 to n\n    up k from 1 to n\n'
                         '      down l from 1 to n\n        f(i, j, k, l): a[i, j, k, l] = a[i - 1, j, k, l + 1]\n')
        orders = loop_orders(nest, (0,), 4)
        self.assertEqual(orders, sorted(orders))
        self.assertEqual(orders, list(itertools.permutations(range(4))))
        self.assertEqual(free_outside(nest, (0,), 4), (1, 0, 2, 3))
        self.assertEqual(loop_orders(nest, (0, 0), 3), list(itertools.permutations(range(3))))

    def test_turned_step_by_step(self):
        nest = read_nest('sizes n\nup i from 0 to n\n  up j from i to n\n    down k from i to j\n      f(i, j, k): a[i] =\n')
        late = moved(moved(nest, ("interchange", (0, 0))), ("interchange", (0,)))
        self.assertEqual(turned(nest, (0,), (2, 0, 1)).body, late.body)
        last = moved(moved(late, ("interchange", (0, 0))), ("interchange", (0, 0)))
        self.assertEqual(turned(nest, (0,), (2, 0, 1)).body, late.body)
        self.assertEqual(turned(nest, (0,), (2, 1, 0)).body, moved(late, ("interchange", (0, 0))).body)
        self.assertNotEqual(last.body, nest.body)
        self.assertEqual(turned(nest, (0,), (0, 1, 2)).body, nest.body)

    def test_runs_at_small_sizes(self):
        rng = random.Random(232)
        for _ in range(60):
            nest = towers(rng, rng.choice([2, 2, 3]))
            sizes = small_sizes(nest, 4 if len(nest.sizes) == 1 else 3)
            for path, node in paths_of(nest):
                for many in range(1, 5):
                    try:
                        orders = loop_orders(nest, path, many)
                    except NoMove as error:
                        self.assertEqual(error.kind, "interchange")
                        break
                    self.check(nest, path, many, orders, sizes)

    def check(self, nest, path, many, orders, sizes):
        counters = [node_at(nest, (*path, *[0] * at))[1] for at in range(many)]
        self.assertEqual(orders, sorted(orders))
        for order in itertools.permutations(range(many)):
            late = turned(nest, path, order)
            late_counters = [node_at(late, (*path, *[0] * at))[1] for at in range(many)]
            self.assertEqual(late_counters, [counters[at] for at in order])
            failed = [one for one in sizes if failing(nest, late, one)]
            if order in orders:
                self.assertFalse(failed)
            elif not failed:
                self.assertTrue(failing(nest, late, agree(nest, late).sizes))
        free = [order for order in orders
                if all_sizes(nest).within(where_free(turned(nest, path, order), path, "mixed"))]
        self.assertEqual(free_outside(nest, path, many), free[0] if free else None)

    def test_errors(self):
        nest = read_nest('sizes n\nup i from 0 to n\n  up j from 0 to n\n    f(0): t[] =\n    g(i, j): t[] =\n')
        for call in (loop_orders, free_outside):
            for path in ((), (1,), [0], (0, 0, 0, 0)):
                with self.assertRaises(NoNode) as caught:
                    call(nest, path, 0)
                self.assertEqual(caught.exception.path, path)
            for path, many in (((0,), 0), ((0,), 3), ((0,), True), ((0, 0), 2), ((0, 0, 0), 1), ((0,), "2"), ((0,), 5)):
                with self.assertRaises(NoMove) as caught:
                    call(nest, path, many)
                self.assertEqual(caught.exception.kind, "interchange")
            with self.assertRaises(Doubled) as caught:
                call(nest, (0,), 2)
            self.assertEqual(caught.exception.label, "f")

    def test_loops_with_other_children(self):
        nest = read_nest('sizes n\nup i from 0 to n\n  up j from 0 to n\n    up k from 0 to n\n      f(i, j, k): t[] =\n'
                         '    g(i, j): t[] =\n')
        for path, many in (((0,), 3), ((0, 0), 2)):
            with self.assertRaises(NoMove) as caught:
                loop_orders(nest, path, many)
            self.assertEqual(caught.exception.kind, "interchange")
        twice = read_nest('sizes n\nup i from 0 to n\n  up j from 0 to n\n    f(0): t[] =\n  g(i): t[] =\n')
        with self.assertRaises(NoMove):
            loop_orders(twice, (0,), 2)
        self.assertEqual(loop_orders(nest, (0,), 2), [(0, 1), (1, 0)])
        self.assertEqual(loop_orders(nest, (0, 0, 0), 1), [(0,)])

    def test_too_large(self):
        nest = read_nest('sizes n\nup i from 9000 to n\n  up j from i + 2000 to n\n    f(i, j): t[] =\n')
        twice = Nest(nest.sizes, (), {}, (), (("loop", "i", (("0", 9000),), (("n", 0),), False, (
            ("loop", "j", (("i", 2000),), (("n", 0),), False, (("run", "f", (("j", 0),), ("t", ()), ()),)),)),))
        for call in (loop_orders, free_outside):
            with self.assertRaises(TooLarge):
                call(nest, (0,), 2)
            with self.assertRaises(Doubled):
                call(twice, (0,), 2)
        with self.assertRaises(TooLarge):
            turned(nest, (0,), (1, 0))
        self.assertEqual(loop_orders(nest, (0,), 1), [(0,)])


if __name__ == "__main__":
    unittest.main()
