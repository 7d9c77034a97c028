"""[27]: rooms, and whether all accesses stay inside them."""

import random
import unittest

from loopsheds.insides import leaving, where_inside
from loopsheds.nests import Nest
from loopsheds.reading import read_nest
from tests.makers import with_rooms
from tests.nesting import Maker, history, small_sizes, value_of

SHORT = read_nest("sizes n, m\nroom a[0 .. n]\nup i from 0 to m\n  f(i): a[i + 1] =\n")


def outside(nest, sizes):
    """All accesses that leave their rooms: the place and counters of the run, the access and the index."""
    found = []
    for run, _ in history(nest, sizes)[0]:
        for access, (array, numbers) in enumerate([run.writes, *run.reads]):
            for index, (number, (low, high)) in enumerate(zip(numbers, nest.rooms.get(array, ()))):
                if not value_of(low, sizes) <= number <= value_of(high, sizes):
                    found.append((run.place, run.counters, access, index))
    return found


class InsidesTest(unittest.TestCase):
    def told(self, nest):
        found = leaving(nest)
        return found.sizes, found.place, found.counters, found.access, found.index

    def test_example(self):
        self.assertEqual(self.told(SHORT), ({"n": 0, "m": 0}, 0, (0,), 0, 0))
        self.assertEqual(where_inside(SHORT).spread("m", "n"), [(None, -1)])

    def test_reads_and_indexes(self):
        nest = read_nest('sizes n\nroom a[-2 .. n, 1 .. 1]\nroom t[]\nup i from 0 to n\n  f(i): t[] = b[i - 9], a[i, 1], a[i - 2, i]\n')
        self.assertEqual(self.told(nest), ({"n": 0}, 0, (0,), 3, 1))
        self.assertFalse(where_inside(nest))
        wide = Nest(nest.sizes, (), {"a": ((("0", -2), ("n", 0)), (("0", 0), ("n", 1)))}, (), nest.body)
        self.assertIsNone(leaving(wide))
        self.assertEqual(where_inside(wide).spread("n"), [(0, None)])

    def test_empty_rooms(self):
        nest = read_nest('sizes n\nroom a[1 .. 0]\nup i from 3 to n\n  f(i): a[i] =\n')
        self.assertEqual(self.told(nest), ({"n": 3}, 0, (3,), 0, 0))
        self.assertEqual(where_inside(nest).spread("n"), [(0, 2)])

    def test_givens_and_great_numbers(self):
        nest = read_nest('sizes n\ngiven n <= 8000\nroom a[0 .. 7000]\nup i from 0 to n\n  f(i): a[i] =\n')
        self.assertEqual(self.told(nest)[0], {"n": 7001})
        self.assertEqual(where_inside(nest).spread("n"), [(0, 7000)])
        kept = nest.supposing(("n", "0", 7000))
        self.assertIsNone(leaving(kept))
        never = nest.supposing(("n", "0", -1))
        self.assertIsNone(leaving(never))
        self.assertFalse(where_inside(never))

    def test_runs_at_small_sizes(self):
        rng = random.Random(27)
        for _ in range(120):
            nest = with_rooms(rng, Maker(rng).nest())
            region, found = where_inside(nest), leaving(nest)
            least = None
            for sizes in small_sizes(nest, 5 if len(nest.sizes) == 1 else 3):
                wrong = outside(nest, sizes)
                self.assertEqual(sizes in region, not wrong)
                if wrong and least is None:
                    least = sizes
            self.assertNotIn({name: -1 for name in nest.sizes}, region)
            if found is None:
                self.assertIsNone(least)
                continue
            if least is not None:
                self.assertLessEqual(list(found.sizes.values()), list(least.values()))
            self.assertEqual(list(found.sizes), list(nest.sizes))
            self.assertIn((found.place, found.counters, found.access, found.index), outside(nest, found.sizes))


if __name__ == "__main__":
    unittest.main()
