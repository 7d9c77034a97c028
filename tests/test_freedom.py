"""[21]: free loops, and evidence of them."""

import itertools
import random
import unittest

from loopsheds.faults import BadKind, Doubled, NoMove, NoNode, TooMany
from loopsheds.freedom import where_free
from loopsheds.mixups import Free, Mixup, is_free, judge_order
from loopsheds.moves import keeps_all
from loopsheds.nests import statements
from loopsheds.reading import read_nest
from loopsheds.running import runs
from tests.nesting import Maker, paths_of, small_sizes

KINDS = ("whole", "mixed")
WALK = read_nest('sizes n\nkeep a\nup i from 1 to n\n  f(i): a[i] = a[i - 1]\n')
SCRATCH = read_nest('sizes n\nup i from 1 to n\n  f(i): t[] = a[i]\n  g(i): a[i] = t[]\n')


class Tale:
    """All runs at some sizes, with the entries of a loop: for each the positions of the runs of each round."""

    def __init__(self, nest, path, sizes):
        self.kept = nest.kept
        self.runs = list(runs(nest, sizes))
        self.entries = {}
        for at, run in enumerate(self.runs):
            row = statements(nest)[run.place]
            if row.path[:len(path)] == path:
                depth = sum(len(path) > level for level in row.levels)
                entry = self.entries.setdefault(run.counters[:depth], {})
                entry.setdefault(run.counters[depth], []).append(at)

    def told(self, positions):
        """The sources of all reads and the ends of the kept cells, if the runs go so."""
        writers = {}
        found = {}
        for at in positions:
            found[at] = [writers.get(cell) for cell in self.runs[at].reads]
            writers[self.runs[at].writes] = at
        return found, {cell: at for cell, at in writers.items() if cell[0] in self.kept}

    def changes(self, turns):
        """Whether something changes if these runs, of one entry, go in this order."""
        first = min(turns)
        late = [*range(first), *turns, *range(first + len(turns), len(self.runs))]
        return self.told(late) != self.told(range(len(self.runs)))

    def orders(self, entry, kind):
        """All orders of the runs of an entry, or None if there are too many."""
        rounds = list(self.entries[entry].values())
        if kind == "whole":
            if len(rounds) > 5:
                return None
            return [[at for part in order for at in part] for order in itertools.permutations(rounds)]
        return interleaved(rounds, 250)


def interleaved(rounds, most):
    found = []

    def go(rest, turns):
        if len(found) > most:
            return
        if not any(rest):
            found.append(turns)
        for at, part in enumerate(rest):
            if part:
                go([*rest[:at], part[1:], *rest[at + 1:]], [*turns, part[0]])
    go(rounds, [])
    return found if len(found) <= most else None


def loops_of(nest):
    return [path for path, node in paths_of(nest) if node[0] == "loop"]


class FreedomTest(unittest.TestCase):
    def test_example(self):
        self.assertEqual(
            [where_free(WALK, (0,), 'whole').spread('n'), judge_order(WALK, (0,), 'mixed').sizes,
             Mixup({'n': 3}, (), [1, 3, 2]).shows(WALK, (0,), 'whole'), is_free(SCRATCH, (0,), 'whole')],
            [[(0, 1)], {'n': 2}, True, True])

    def test_kinds(self):
        self.assertTrue(is_free(SCRATCH, (0,), "whole"))
        self.assertFalse(is_free(SCRATCH, (0,), "mixed"))
        self.assertEqual(where_free(SCRATCH, (0,), "mixed").spread("n"), [(0, 1)])
        self.assertIsInstance(judge_order(SCRATCH, (0,), "whole"), Free)
        self.assertIs(is_free(SCRATCH, (0,), "whole"), True)

    def check(self, nest, path, kind, high):
        region = where_free(nest, path, kind)
        told = judge_order(nest, path, kind)
        self.assertEqual(region.names, nest.sizes)
        self.assertTrue(told.shows(nest, path, kind))
        self.assertEqual(is_free(nest, path, kind), isinstance(told, Free))
        least = None
        for sizes in small_sizes(nest, high):
            tale = Tale(nest, path, sizes)
            orders = {entry: tale.orders(entry, kind) for entry in tale.entries}
            changed = any(tale.changes(order) for row in orders.values() if row for order in row)
            if changed:
                self.assertNotIn(sizes, region)
                least = sizes if least is None else least
            elif None not in orders.values():
                self.assertIn(sizes, region)
            elif sizes not in region:
                least = sizes if least is None else least
        if least is not None and sum(least.values()) <= high:
            self.assertEqual(told.sizes, least)
        elif isinstance(told, Mixup):
            self.check_mixup(nest, path, kind, told)
        return type(told)

    def check_mixup(self, nest, path, kind, told):
        tale = Tale(nest, path, told.sizes)
        rounds = {number: list(row) for number, row in tale.entries[told.entry].items()}
        if kind == "whole":
            self.assertEqual(sorted(told.order), sorted(rounds))
            turns = [at for number in told.order for at in rounds[number]]
        else:
            turns = [rounds[number].pop(0) for number in told.order]
            self.assertFalse(any(rounds.values()))
        self.assertTrue(tale.changes(turns))
        self.assertNotIn(told.sizes, where_free(nest, path, kind))

    def test_many_nests(self):
        found = {}
        for seed in range(120):
            nest = Maker(random.Random(seed)).nest()
            for path in loops_of(nest):
                for kind in KINDS:
                    key = (kind, self.check(nest, path, kind, 3))
                    found[key] = found.get(key, 0) + 1
        self.assertGreater(min(found.values()), 20)
        self.assertEqual(len(found), 4)

    def test_mixups_of_many_nests(self):
        for seed in range(200, 400):
            nest = Maker(random.Random(seed)).nest(4, 3)
            for path in loops_of(nest):
                for kind in KINDS:
                    told = judge_order(nest, path, kind)
                    self.assertTrue(told.shows(nest, path, kind))
                    if isinstance(told, Mixup):
                        self.check_mixup(nest, path, kind, told)

    def test_edges(self):
        for body, path, whole, mixed in (
                ('up i from 1 to n\n  f(i): a[i] = b[i]\n', (0,), None, None),
                ('up i from 1 to n\n  f(i): a[0] = b[i]\n', (0,), {"n": 2}, {"n": 2}),
                ('up i from 1 to n\n  f(i): c[0] = b[i]\n', (0,), None, None),
                ('up i from 1 to n\n  f(i): c[0] = b[i]\ng(): a[0] = c[0]\n', (0,), {"n": 2}, {"n": 2}),
                ('up i from 1 to n\n  f(i): c[0] =\ng(): c[0] =\nh(): a[0] = c[0]\n', (0,), None, None),
                ('up i from 1 to n\n  f(i): b[i] = b[i + 5]\n', (0,), {"n": 6}, {"n": 6}),
                ('down i from n to 0\n  f(i): b[i] = b[i + 1]\n', (0,), None, None),
                ('up i from 5 to 4\n  f(i): a[0] = a[0]\n', (0,), None, None),
                ('up i from 3 to 3\n  f(i): a[0] = a[0]\n  g(i): a[0] = a[0]\n', (0,), None, None),
                ('up k from 0 to n\n  up i from 0 to 1\n    f(k, i): c[i] = c[1 - 0]\n', (0, 0), {"n": 0}, {"n": 0}),
                ('up k from 0 to n\n  up i from 0 to 1\n    f(k, i): c[k] =\n  g(k): b[k] = c[k - 1]\n', (0, 0),
                 {"n": 1}, {"n": 1}),
                ('up k from 0 to n\n  up i from 0 to k\n    f(k, i): c[0] =\n    g(k, i): b[i] = c[0]\n', (0, 0), None, {"n": 1})):
            body = body.replace("1 - 0", "1")
            nest = read_nest('sizes n\nkeep a\n' + body)
            for kind, sizes in (("whole", whole), ("mixed", mixed)):
                told = judge_order(nest, path, kind)
                self.assertEqual(None if isinstance(told, Free) else told.sizes, sizes, (body, kind))
                self.check(nest, path, kind, 4)

    def test_the_order_is_for_what_changes(self):
        """Rounds that write what only they read themselves are no reason for an order of whole rounds."""
        for used in ("  when i <= 2\n    h(i): a[0] =\n", "  when i <= 2\n    h(i): c[0] =\nk(): a[0] = c[0]\n"):
            nest = read_nest('sizes n\ngiven 5 <= n\nkeep a\nup i from 1 to n\n  f(i): t[] =\n  g(i): b[i] = t[]\n' + used)
            told = judge_order(nest, (0,), "whole")
            self.assertEqual(told.sizes, {"n": 5})
            self.assertTrue(told.shows(nest, (0,), "whole"))
            self.check_mixup(nest, (0,), "whole", told)

    def test_givens(self):
        body = 'keep a\nup i from 1 to n\n  f(i): a[i] = a[i - 3]\n'
        self.assertEqual(where_free(read_nest('sizes n\ngiven n <= 9\n' + body), (0,), "whole").spread("n"), [(0, 3)])
        self.assertTrue(is_free(read_nest('sizes n\ngiven n <= 3\n' + body), (0,), "mixed"))
        none = read_nest('sizes n\ngiven n <= -1\n' + body)
        self.assertTrue(is_free(none, (0,), "mixed"))
        self.assertFalse(where_free(none, (0,), "mixed"))
        self.assertTrue(judge_order(none, (0,), "whole").shows(none, (0,), "whole"))

    def test_great_sizes(self):
        nest = read_nest('sizes n, m\nkeep a\nup i from 0 to n\n  f(i): a[i] = a[i - 7000]\n  when 9000 <= i and 5 <= m\n'
                         '    g(i): t[] = t[]\n')
        self.assertEqual(where_free(nest, (0,), "mixed").spread("n"), [(0, 6999)])
        self.assertEqual(judge_order(nest, (0,), "mixed").sizes, {"n": 7000, "m": 0})
        many = read_nest('sizes n\nkeep a\nup i from 0 to n\n  f(i): a[i] = a[i - 9998]\n  g(i): t[i] =\n')
        with self.assertRaises(TooMany) as caught:
            judge_order(many, (0,), "whole")
        self.assertEqual(caught.exception.most, 20000)
        self.assertEqual(where_free(many, (0,), "whole").spread("n"), [(0, 9997)])
        with self.assertRaises(TooMany):
            Mixup({"n": 9000}, (), [1]).shows(many, (0,), "whole")
        self.assertFalse(Mixup({"n": -1}, (), [1]).shows(many, (0,), "whole"))
        self.assertFalse(is_free(many, (0,), "mixed"))
        self.assertFalse(Free().shows(many, (0,), "mixed"))

    def test_free_loops_may_be_reversed(self):
        for seed in range(120):
            nest = Maker(random.Random(seed)).nest()
            for path in loops_of(nest):
                whole, mixed = [where_free(nest, path, kind) for kind in KINDS]
                self.assertTrue(mixed.within(whole))
                if is_free(nest, path, "whole"):
                    self.assertTrue(keeps_all(nest, ("reverse", path)))

    def test_errors(self):
        nest = read_nest('sizes n\nwhen n <= 1\n  f(): a[] =\nup i from 0 to n\n  g(): a[] =\n')
        calls = [where_free, is_free, judge_order, Free().shows, Mixup({"n": 9}, (), []).shows]
        for call in calls:
            for path in ((), (2,), (1, 1), [1], None, (True,), (0, 0, 0)):
                with self.assertRaises(NoNode) as caught:
                    call(nest, path, "some")
                self.assertEqual(caught.exception.path, path)
            for path in ((0,), (0, 0), (1, 0)):
                with self.assertRaises(NoMove) as caught:
                    call(nest, path, "some")
                self.assertEqual(caught.exception.kind, "free")
            for kind in ("some", "", None, 3, ("whole",), ["mixed"]):
                with self.assertRaises(BadKind):
                    call(nest, (1,), kind)
            with self.assertRaises(Doubled) as caught:
                call(nest, (1,), "whole")
            self.assertEqual(caught.exception.label, "g")


class EvidenceTest(unittest.TestCase):
    def test_free(self):
        self.assertTrue(Free().shows(SCRATCH, (0,), "whole"))
        self.assertFalse(Free().shows(SCRATCH, (0,), "mixed"))
        self.assertFalse(Free().shows(WALK, (0,), "whole"))

    def test_mixups_of_a_walk(self):
        for sizes, entry, order, shows in (
                ({"n": 3}, (), [1, 3, 2], True), ({"n": 3}, (), [1, 2, 3], False), ({"n": 3}, (), [3, 2, 1], True),
                ({"n": 3}, (), [1, 2], False), ({"n": 3}, (), [1, 2, 3, 3], False), ({"n": 3}, (), [1, 2, 2], False),
                ({"n": 3}, (), [0, 1, 2], False), ({"n": 3}, (), [], False), ({"n": 3}, (), (1, 3, 2), False),
                ({"n": 3}, (), [True, 3, 2], False), ({"n": 3}, (), ["1", 3, 2], False), ({"n": 3}, (), [None, 3, [2]], False),
                ({"n": 3}, (0,), [1, 3, 2], False), ({"n": 3}, (1, 2), [1, 3, 2], False), ({"n": 3}, ([],), [1, 3, 2], False),
                ({"n": 3}, ("x",), [1, 3, 2], False), ({"n": 3}, [], [1, 3, 2], False), ({"n": 1}, (), [1], False),
                ({"n": 0}, (), [], False), ({"n": -3}, (), [1, 3, 2], False), ({}, (), [1, 3, 2], False),
                ({"n": 3, "m": 0}, (), [1, 3, 2], False), ({"m": 3}, (), [1, 3, 2], False), ({"n": True}, (), [1], False),
                ({"n": "3"}, (), [1, 3, 2], False), ({"n": 1000001}, (), [2, 1], False), ({3: 3}, (), [1, 3, 2], False)):
            for kind in KINDS:
                self.assertIs(Mixup(sizes, entry, order).shows(WALK, (0,), kind), shows, (sizes, entry, order))

    def test_turns(self):
        for order, shows in (([1, 1, 2, 2], False), ([2, 2, 1, 1], False), ([1, 2, 2, 1], True), ([1, 2, 1, 2], True),
                             ([2, 1, 1, 2], True), ([1, 2], False), ([1, 1, 1, 2], False), ([1, 1, 2, 2, 2], False)):
            self.assertEqual(Mixup({"n": 2}, (), order).shows(SCRATCH, (0,), "mixed"), shows, order)
        self.assertFalse(Mixup({"n": 2}, (), [2, 1]).shows(SCRATCH, (0,), "whole"))
        self.assertFalse(Mixup({"n": 2}, (), [1, 2, 2, 1]).shows(SCRATCH, (0,), "whole"))

    def test_entries(self):
        nest = read_nest('sizes n\nkeep a\ngiven n <= 8\nup k from 1 to n\n  up i from 0 to k\n    when 1 <= i\n'
                         '      f(k, i): a[i] = a[i - 1]\n')
        told = judge_order(nest, (0, 0), "whole")
        self.assertEqual((told.sizes, told.entry, sorted(told.order)), ({"n": 2}, (2,), [1, 2]))
        for entry, order, shows in (((2,), [2, 1], True), ((3,), [1, 3, 2], True), ((1,), [1], False), ((2,), [0, 2, 1], False),
                                    ((4,), [1, 3, 2, 4], False), ((True,), [1], False), ((), [2, 1], False), ((2, 1), [2, 1], False)):
            self.assertEqual(Mixup({"n": 3}, entry, order).shows(nest, (0, 0), "whole"), shows)
        self.assertFalse(Mixup({"n": 9}, (2,), [2, 1]).shows(nest, (0, 0), "whole"))

    def test_evidence_is_copied(self):
        sizes, order = {"n": 3}, [1, 3, 2]
        told = Mixup(sizes, (), order)
        sizes["n"] = 0
        order.clear()
        self.assertEqual((told.sizes, told.entry, told.order), ({"n": 3}, (), [1, 3, 2]))

    def test_wrong_orders_of_many_nests(self):
        seen = set()
        for seed in range(100):
            rng = random.Random(seed)
            nest = Maker(rng).nest()
            for path in loops_of(nest):
                for sizes in small_sizes(nest, 3):
                    tale = Tale(nest, path, sizes)
                    for entry, rounds in list(tale.entries.items())[:2]:
                        order = rng.sample(list(rounds), len(rounds))
                        changes = tale.changes([at for number in order for at in rounds[number]])
                        told = Mixup(sizes, entry, order)
                        self.assertEqual(told.shows(nest, path, "whole"), changes)
                        turns = [number for number in rounds for _ in rounds[number]]
                        rng.shuffle(turns)
                        rest = {number: list(row) for number, row in rounds.items()}
                        changes = tale.changes([rest[number].pop(0) for number in turns])
                        self.assertEqual(Mixup(sizes, entry, turns).shows(nest, path, "mixed"), changes)
                        seen.add(changes)
        self.assertEqual(seen, {True, False})


if __name__ == "__main__":
    unittest.main()
