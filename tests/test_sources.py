"""[17]: sources of reads, and papers."""

import random
import unittest

from loopsheds.faults import NoPlace
from loopsheds.nests import bounds, statements
from loopsheds.papers import Paper, paper
from loopsheds.reading import read_nest
from loopsheds.regions import Region
from loopsheds.sources import sources
from tests.helpers import holds
from tests.nesting import Maker, history, is_run, small_sizes, told_at

WALK = read_nest('sizes n\nkeep a\nup i from 1 to n\n  f(i): a[i] = a[i - 1]\n')
TABLE = read_nest('''sizes n, m
given n <= m
keep a
up i from 1 to n
  down j from 0, i - 2 to m, n + 1
    f(i, j): a[j] = a[j - 1], b[i], a[j]
    when i <= j
      g(i, j): b[j] = a[j + 1], b[j - 1]
  h(i): a[i] = b[i + 1], t[]
t(0): t[] =
u(1): b[0] = t[], z[n, 1]
''')


def reads_of(nest):
    return [(place, read) for place, row in enumerate(statements(nest)) for read in range(len(row.reads))]


def point_of(nest, run, sizes):
    return {**dict(zip(statements(nest)[run.place].counters, run.counters)), **sizes}


class SourcesTest(unittest.TestCase):
    def check(self, nest, high):
        cases = {(place, read): sources(nest, place, read) for place, read in reads_of(nest)}
        for place, read in cases:
            row = statements(nest)[place]
            region = Region((*row.counters, *nest.sizes), [system for system, _ in cases[(place, read)]])
            self.assertTrue(Region(region.names, [bounds(nest, place)]).within(region))
        for sizes in small_sizes(nest, high):
            for run, told_sources in history(nest, sizes)[0]:
                point = point_of(nest, run, sizes)
                for read, source in enumerate(told_sources):
                    told = told_at(cases[(run.place, read)], point)
                    self.assertEqual(len(told), 1)
                    self.assertTrue(is_run(told[0], source, point), (run.name, read, told))

    def test_walk(self):
        for value, told in ((1, ("first",)), (2, ("run", 0, (("i", -1),))), (9999, ("run", 0, (("i", -1),)))):
            self.assertEqual(told_at(sources(WALK, 0, 0), {"i": value, "n": 9999}), [told])

    def test_table(self):
        self.check(TABLE, 6)
        self.assertEqual(sources(TABLE, 4, 0)[0][1], ("run", 3, ()))
        self.assertEqual([told for _, told in sources(TABLE, 4, 1)], [("first",)])

    def test_edges(self):
        for text in (
                'sizes n\nf(): a[] = a[]\n', 'sizes n\nup i from 1 to 0\n  f(i): a[i] = a[i]\ng(): a[3] = a[1], a[n]\n',
                'sizes n\ndown i from 0 to n\n  f(i): a[i] = a[i + 1], a[i - 1], t[]\n  g(i): t[] =\n',
                'sizes n\nup i from 0, 2, n - 3 to n, 5, n + 1\n  down j from 0, i to i, i + 1, n\n    f(i, j): a[j] = a[i]\n',
                'sizes n\nup i from 0 to n\n  when i <= n - 2\n    f(i): a[i] = a[i]\n  when i <= 1\n    g(i): a[1] = a[2]\n',
                'sizes n\ngiven 2 <= n and n <= 4\nup i from 0 to n\n  f(i): t[] = t[], a[n - 1]\n  g(i): a[i] = t[]\n'):
            self.check(read_nest(text), 7)
        none = read_nest('sizes n\ngiven n <= -1\nup i from 0 to n\n  f(i): a[i] = a[i]\n')
        self.assertEqual([told for system, told in sources(none, 0, 0) if holds(system, {"i": 0, "n": -1})], [])

    def test_many_nests(self):
        for seed in range(300):
            self.check(Maker(random.Random(seed)).nest(), 4)
        for seed in range(40):
            self.check(Maker(random.Random(seed)).nest(6, 3), 3)

    def test_great_sizes(self):
        nest = read_nest('sizes n\nup i from 0 to n\n  f(i): a[i] = a[i - 9000]\nup j from 0 to 9999\n  g(j): b[j] = a[j]\n')
        cases = sources(nest, 0, 0)
        self.assertEqual(told_at(cases, {"i": 8999, "n": 20000}), [("first",)])
        self.assertEqual(told_at(cases, {"i": 9000, "n": 20000}), [("run", 0, (("i", -9000),))])
        for size, counter, is_first in ((9998, 9999, True), (9999, 9999, False), (70, 70, False)):
            told = told_at(sources(nest, 1, 0), {"j": counter, "n": size})
            self.assertEqual(len(told), 1)
            self.assertEqual(told[0] == ("first",), is_first)

    def test_places(self):
        for place, read in ((-1, 0), (1, 0), (0, 1), (0, -1), (True, 0), (0, False), ("0", 0), (0, None), (None, 0)):
            for call in (sources, paper, Paper([]).shows):
                with self.assertRaises(NoPlace):
                    call(WALK, place, read)

    def test_returned_lists_are_new(self):
        sources(WALK, 0, 0).clear()
        sources(WALK, 0, 0)[0][0].clear()
        self.assertTrue(Paper(sources(WALK, 0, 0)).shows(WALK, 0, 0))


class PapersTest(unittest.TestCase):
    def test_all_show(self):
        for nest in (WALK, TABLE, *[Maker(random.Random(seed)).nest() for seed in range(100)]):
            for place, read in reads_of(nest):
                told = paper(nest, place, read)
                self.assertIsInstance(told, Paper)
                self.assertTrue(told.shows(nest, place, read))

    def test_wrong_ones(self):
        tries = 0
        for seed in range(80):
            rng = random.Random(seed)
            nest = Maker(rng).nest()
            for place, read in reads_of(nest):
                cases = sources(nest, place, read)
                for at, (system, told) in enumerate(cases):
                    other = self.changed(rng, nest, system, told)
                    late = [*cases[:at], other, *cases[at + 1:]]
                    right = self.right_at_small(nest, place, read, late)
                    shows = Paper(late).shows(nest, place, read)
                    if not right:
                        self.assertFalse(shows, (seed, other))
                        tries += 1
        self.assertGreater(tries, 30)

    def changed(self, rng, nest, system, told):
        draw = rng.random()
        if draw < 0.3:
            return ([*system, (nest.sizes[0], "0", 2)], told)
        if told == ("first",):
            return (system, ("run", 0, ()))
        if draw < 0.5 or not told[2]:
            return (system, ("first",))
        atoms = list(told[2])
        at = rng.randrange(len(atoms))
        atoms[at] = (atoms[at][0], atoms[at][1] + rng.choice([-1, 1]))
        return (system, ("run", told[1], tuple(atoms)))

    def right_at_small(self, nest, place, read, cases):
        for sizes in small_sizes(nest, 5):
            for run, told_sources in history(nest, sizes)[0]:
                if run.place == place:
                    point = point_of(nest, run, sizes)
                    told = told_at(cases, point)
                    if not told or not all(is_run(one, told_sources[read], point) for one in told):
                        return False
        return True

    def test_walk(self):
        first = ([("i", "0", 1)], ("first",))
        later = ([("0", "i", -2)], ("run", 0, (("i", -1),)))
        for cases, shows in (
                ([first, later], True), ([later, first], True), ([first], False), ([later], False), ([], False),
                ([first, later, first], True), ([first, later, ([], ("first",))], False),
                ([first, later, ([("i", "0", 0)], "nothing")], True),
                ([first, later, ([("n", "i", -1)], ("run", 7, []))], True),
                ([first, later, ([("i", "n", -1), ("n", "i", 0)], None)], True),
                ([(((("i", "0", 1)),), ("first",)), ((["0", "i", -2],), ("run", 0, (("i", -1),)))], True),
                ([first, ([("0", "i", -2)], ("run", 0, (("i", -2),)))], False),
                ([first, ([("0", "i", -2)], ("run", 0, (("n", -1),)))], False),
                ([first, ([("0", "i", -2)], ("run", 1, (("i", -1),)))], False),
                ([first, ([("0", "i", -2)], ("run", False, (("i", -1),)))], False),
                ([first, ([("0", "i", -2)], ["run", 0, (("i", -1),)])], False),
                ([first, ([("0", "i", -2)], ("run", 0, [("i", -1)]))], False),
                ([first, ([("0", "i", -2)], ("run", 0, (["i", -1],)))], False),
                ([first, ([("0", "i", -2)], ("run", 0, (("i", -1), ("i", 0))))], False),
                ([first, ([("0", "i", -2)], ("run", 0, ()))], False),
                ([first, ([("0", "i", -2)], ("run", 0, (("k", -1),)))], False),
                ([first, ([("0", "i", -2)], ("run", 0, (("i", -1, 0),)))], False),
                ([first, ([("0", "i", -2)], ("run", 0))], False), ([first, ([("0", "i", -2)], ())], False),
                ([first, ([("0", "i", -2)], 5)], False), ([first, ([("0", "i", -2)], ("first", 1))], False),
                ([([("i", "0", 1)], ["first"]), later], False), ([([("i", "0", 1)], "first"), later], False),
                ([first, ([("i", "0", 2), ("0", "i", -2)], ("run", 0, (("0", 1),))),
                  ([("0", "i", -3)], ("run", 0, (("i", -1),)))], True),
                ([first, ([("i", "0", 2), ("0", "i", -2)], ("run", 0, (("0", True),))),
                  ([("0", "i", -3)], ("run", 0, (("i", -1),)))], False)):
            self.assertEqual(Paper(cases).shows(WALK, 0, 0), shows, cases)

    def test_a_statement_that_never_runs(self):
        nest = read_nest('sizes n\nup i from 1 to 0\n  f(i): a[i] = a[i]\n')
        self.assertTrue(Paper([]).shows(nest, 0, 0))
        self.assertTrue(Paper([([], 3)]).shows(nest, 0, 0))

    def test_cases_are_copied(self):
        cases = [([("i", "0", 1)], ("first",)), ([["0", "i", -2]], ("run", 0, (("i", -1),)))]
        told = Paper(cases)
        cases[0][0].clear()
        cases[1][0][0][2] = 5
        cases.clear()
        self.assertEqual(told.cases, [([("i", "0", 1)], ("first",)), ([["0", "i", -2]], ("run", 0, (("i", -1),)))])
        self.assertTrue(told.shows(WALK, 0, 0))


if __name__ == "__main__":
    unittest.main()
