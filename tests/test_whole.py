"""The whole program: what its functions tell of one nest fits together, whatever the names, at small and great sizes."""

import copy
import itertools
import random
import unittest

from loopsheds.agreeing import agree, where_agree
from loopsheds.barriers import fewest_cuts, where_cut
from loopsheds.comparing import unlike_at
from loopsheds.copies import fewest_copies, own_arrays
from loopsheds.counting import Count, count
from loopsheds.errors import Descending
from loopsheds.faults import NoMove
from loopsheds.finals import needs, unread
from loopsheds.freedom import where_free
from loopsheds.grouping import fewest_loops
from loopsheds.halos import far_value, halo, where_near
from loopsheds.insides import leaving, where_inside
from loopsheds.legal import where_legal, where_ordered
from loopsheds.moves import moved
from loopsheds.nests import Nest, bounds, node_at, statements
from loopsheds.regions import Region
from loopsheds.scanning import scan
from loopsheds.shifting import shift_times, shifts, where_joined
from loopsheds.sources import sources
from loopsheds.tallies import all_work, cells, rounds, traffic, work
from loopsheds.tidying import left_out, tidy, without_unread
from loopsheds.times import order_times
from loopsheds.trimming import empty_rounds, trim
from loopsheds.truths import truth
from loopsheds.windows import clash, window
from loopsheds.writing import write_nest
from tests.makers import families, neighbours, towers, with_rooms
from tests.nesting import Maker, paths_of

NAMES = {"n": "zz", "m": "aa", "c0": "k9", "c1": "b_", "a": "q", "b": "p", "t": "s", "u": "r1", "f": "lab", "g": "big"}


def some_nests(seed, many):
    rng = random.Random(seed)
    for turn in range(many):
        nest = (Maker(rng).nest, lambda: neighbours(rng), lambda: families(rng), lambda: towers(rng, 2))[turn % 4]()
        yield with_rooms(rng, nest)


def loops_of(nest):
    return [path for path, node in paths_of(nest) if node[0] == "loop"]


def is_ascending(nest):
    return not any(loop[3] for row in statements(nest) for loop in row.loops)


def tally(region, sizes):
    """How many points a region has for all sizes."""
    return count(region, *[name for name in region.names if name not in sizes])


def renamed(nest):
    """The nest with other names for all sizes, counters, arrays and labels."""
    def change(part):
        if isinstance(part, tuple):
            return tuple(change(one) for one in part)
        return NAMES.get(part, part) if isinstance(part, str) else part
    rooms = {NAMES[array]: change(pairs) for array, pairs in nest.rooms.items()}
    return Nest(change(nest.sizes), change(nest.given), rooms, change(nest.kept),
                tuple(body_of(node, change) for node in nest.body))


def body_of(node, change):
    """The node with changed names; its kind stays."""
    if node[0] == "run":
        return ("run", *[change(part) for part in node[1:]])
    return (node[0], *[change(part) for part in node[1:-1]], tuple(body_of(child, change) for child in node[-1]))


def named_sizes(sizes):
    return None if sizes is None else {NAMES[name]: value for name, value in sizes.items()}


class FitTest(unittest.TestCase):
    def test_free_loops_have_no_halo(self):
        for nest in some_nests(1, 60):
            for path in loops_of(nest):
                near = where_near(nest, path, 0)
                self.assertTrue(where_free(nest, path, "mixed").within(near))
                self.assertEqual(halo(nest, path).least == 0, far_value(nest, path, 0) is None)
                if traffic(nest, path).rows == []:
                    self.assertEqual(halo(nest, path).stretches, [])
                else:
                    self.assertTrue(halo(nest, path).stretches)

    def test_cases_add_up(self):
        for nest in some_nests(2, 60):
            for place, row in enumerate(statements(nest)):
                names = (*nest.sizes, *row.counters)
                whole = tally(Region(names, [bounds(nest, place)]), nest.sizes)
                self.assertIsNone(unlike_at(whole, work(nest, place)))
                for read in range(len(row.reads)):
                    added = Count(nest.sizes, [])
                    for system, _ in sources(nest, place, read):
                        added = added + tally(Region(names, [system]), nest.sizes)
                    self.assertIsNone(unlike_at(added, work(nest, place)))

    def test_tidy_nests_do_as_much(self):
        for nest in some_nests(3, 60):
            self.assertTrue(agree(nest, trim(nest)))
            self.assertIsNone(unlike_at(all_work(nest), all_work(trim(nest))))
            if is_ascending(nest) and len(statements(nest)) <= 4:
                late = tidy(nest)
                self.assertTrue(agree(nest, late))
                self.assertIsNone(unlike_at(all_work(nest), all_work(late)))
                added = Count(nest.sizes, [])
                for place in range(len(statements(nest))):
                    added = added + tally(unread(nest, place), nest.sizes)
                self.assertIsNone(unlike_at(all_work(nest) - added, all_work(without_unread(nest))))

    def test_rounds_with_and_without_runs(self):
        for nest in some_nests(4, 60):
            for path in loops_of(nest):
                around = tuple(node[1] for node in [node_at(nest, path[:at + 1]) for at in range(len(path))]
                               if node[0] == "loop")
                full = Region((*around, *nest.sizes), [])
                for place, row in enumerate(statements(nest)):
                    if row.path[:len(path)] == path:
                        names = (*row.counters, *nest.sizes)
                        full = full | Region(names, [bounds(nest, place)]).shadow(*full.names)
                added = tally(full, nest.sizes) + tally(empty_rounds(nest, path), nest.sizes)
                self.assertIsNone(unlike_at(added, rounds(nest, path)))

    def test_loops_as_one(self):
        seen = 0
        for nest in some_nests(5, 100):
            for path in loops_of(nest):
                try:
                    late = moved(nest, ("fuse", path))
                except NoMove:
                    continue
                if node_at(nest, path)[4]:
                    continue
                seen += 1
                joined, fused = where_joined(nest, path, (0, 0)), where_agree(nest, late)
                self.assertTrue(joined.within(fused))
                if node_at(nest, path)[1] == node_at(nest, (*path[:-1], path[-1] + 1))[1]:
                    self.assertEqual(fewest_loops(nest, path, 2).chosen == (2,), bool(agree(nest, late)))
                if is_ascending(nest) and len(statements(nest)) <= 4:
                    times = shift_times(nest, path, (0, 0))
                    names = [f"p{at}" for at in range(len(times[0]))]
                    self.assertTrue(agree(late, scan(nest, times, counters=names)))
                    self.assertTrue(where_legal(nest, times, counters=names).same(fused))
                    self.assertTrue(joined.within(where_ordered(nest, times)))
        self.assertGreater(seen, 10)

    def test_truth_of_bounds(self):
        for nest in some_nests(6, 40):
            for place, row in enumerate(statements(nest)):
                parts = [("compare", "<=", (left, 0), (right, limit)) for left, right, limit in bounds(nest, place)]
                formula = ("and", (*parts, *parts[:1]))
                names = (*row.counters, *nest.sizes)
                region = Region(names, [bounds(nest, place)])
                self.assertTrue(truth(formula, names).same(region))
                for counter in reversed(row.counters):
                    formula = ("some", counter, formula)
                self.assertTrue(truth(formula, nest.sizes).same(region.shadow(*nest.sizes)))
                self.assertIsNone(unlike_at(work(nest, place), tally(truth(("and", (*parts, *parts)), names), nest.sizes)))

    def test_windows_and_first_contents(self):
        for nest in some_nests(7, 60):
            for array, many in nest.arrays.items():
                for position in range(many):
                    found = window(nest, array, position)
                    if array not in nest.kept:
                        least = needs(nest, array).shadow(*nest.sizes).first_point()
                        self.assertEqual(found.sizes, least)
                    if found.least is not None:
                        self.assertIsNone(clash(nest, array, position, found.least))

    def test_loops_that_need_no_cuts_and_no_copies(self):
        for nest in some_nests(8, 80):
            for path in loops_of(nest):
                free = where_free(nest, path, "mixed")
                self.assertTrue(where_cut(nest, path, ()).same(free))
                is_free = not where_agree(nest, nest) - free
                self.assertEqual(fewest_copies(nest, path).against == {}, is_free)
                self.assertEqual(fewest_cuts(nest, path).against == {}, is_free)

    def test_inside_rooms(self):
        for nest in some_nests(9, 60):
            wrong = where_agree(nest, nest) - where_inside(nest)
            self.assertEqual(wrong.first_point(), None if leaving(nest) is None else leaving(nest).sizes)


class NamesTest(unittest.TestCase):
    def test_renamed_nests_give_renamed_answers(self):
        rng = random.Random(10)
        for _ in range(60):
            maker = Maker(rng, labels="fg")
            nest = with_rooms(rng, maker.nest(most=2))
            self.check(nest, renamed(nest))

    def check(self, nest, other):
        self.assertTrue(where_inside(nest).renamed(*other.sizes).same(where_inside(other)))
        for path in loops_of(nest):
            one, late = halo(nest, path), halo(other, path)
            self.assertEqual((one.least, one.stretches), (late.least, late.stretches))
            told, late_told = fewest_cuts(nest, path), fewest_cuts(other, path)
            self.assertEqual({cuts: named_sizes(sizes) for cuts, sizes in told.against.items()}, late_told.against)
            own = [NAMES[array] for array in own_arrays(nest, path)]
            self.assertEqual(sorted(own), own_arrays(other, path))
            self.assertIsNone(unlike_at(traffic(other, path), self.counted(traffic(nest, path))))
        for array, many in nest.arrays.items():
            self.assertIsNone(unlike_at(cells(other, NAMES[array]), self.counted(cells(nest, array))))
            for position in range(many):
                one, late = window(nest, array, position), window(other, NAMES[array], position)
                self.assertEqual((one.least, one.why, one.stretches, named_sizes(one.sizes)),
                                 (late.least, late.why, late.stretches, late.sizes))
        self.assertEqual(write_nest(renamed(trim(nest))), write_nest(trim(other)))
        try:
            times = order_times(nest)
        except Descending:
            return
        self.assertEqual([tuple((NAMES.get(name, name), shift) for name, shift in row) for row in times], order_times(other))
        self.assertTrue(where_ordered(nest, times).renamed(*other.sizes).same(where_ordered(other, order_times(other))))

    def counted(self, told):
        def changed(name):
            return NAMES.get(name, name)
        region = Region([changed(name) for name in told.names], [])
        found = Count(region.names, [])
        for system, poly in told:
            for name in told.names:
                poly = poly.put(name, poly.of(changed(name)))
            found = found + Count(region.names, [([(changed(left), changed(right), limit)
                                                   for left, right, limit in system], poly)])
        return found


class AnswersTest(unittest.TestCase):
    def test_answers_do_not_hang_on_earlier_ones(self):
        for nest in some_nests(11, 24):
            body, rooms = copy.deepcopy(nest.body), nest.rooms
            first = self.told(nest)
            for path in loops_of(nest):
                evidence = fewest_cuts(nest, path)
                for sizes in evidence.against.values():
                    sizes.clear()
                evidence.against.clear()
                halo(nest, path).stretches.append((0, 0))
            for array, many in nest.arrays.items():
                for position in range(many):
                    found = window(nest, array, position)
                    found.stretches.append((0, 0))
                    if found.sizes:
                        found.sizes.clear()
            nest.rooms.clear()
            self.assertEqual(self.told(nest), first)
            self.assertEqual((nest.body, nest.rooms), (body, rooms))

    def told(self, nest):
        found = []
        for path in loops_of(nest):
            found.append((fewest_cuts(nest, path).against, fewest_copies(nest, path).against))
            found.append((halo(nest, path).stretches, traffic(nest, path)({name: 5 for name in nest.sizes})))
        for array, many in nest.arrays.items():
            for position in range(many):
                found.append((window(nest, array, position).stretches, window(nest, array, position).sizes))
        found.append(write_nest(trim(nest)))
        return found

    def test_arguments_stay(self):
        nest = next(some_nests(12, 1))
        rows = statements(nest)
        times = [[("0", at), *[(counter, 0) for counter in row.counters]] for at, row in enumerate(rows)]
        long = max(len(row) for row in times)
        times = [[*row, *[("0", 0)] * (long - len(row))] for row in times]
        before = copy.deepcopy(times)
        names = [f"p{at}" for at in range(long)]
        regions = [Region.whole(row.counters) for row in rows]
        scan(nest, times, counters=names, regions=regions)
        where_legal(nest, times, counters=names)
        where_ordered(nest, times)
        self.assertEqual((times, names, len(regions)), (before, [f"p{at}" for at in range(long)], len(rows)))
        gone = {0: Region.nothing(rows[0].counters)}
        if is_ascending(nest):
            left_out(nest, gone)
        self.assertEqual(list(gone), [0])

    def test_great_sizes(self):
        body = (("loop", "i", (("0", 0),), (("n", -7000),), False, (
            ("run", "f", (("i", 0),), ("a", (("i", 3000),)), (("a", (("i", -2000),)), ("b", (("m", 9999),)))),)),)
        nest = Nest(("n", "m"), (("m", "n", 5000),), {"a": ((("0", -2000), ("n", -4001)),)}, ("a",), body)
        self.assertEqual(leaving(nest).sizes, {"n": 7000, "m": 0})
        self.assertEqual(where_inside(nest).spread("n"), [(0, 6999)])
        self.assertEqual(halo(nest, (0,)).stretches, [(5000, 5000)])
        self.assertEqual(far_value(nest, (0,), 4999)[0], {"n": 12000, "m": 0})
        self.assertEqual(traffic(nest, (0,))({"n": 100000, "m": 105000}), 88001)
        self.assertEqual(traffic(nest, (0,))({"n": 100000, "m": 105001}), 0)
        self.assertEqual(cells(nest, "a")({"n": 20000, "m": 0}), 18001)
        self.assertEqual(fewest_cuts(nest, (0,)).against, {(): {"n": 12000, "m": 0}})
        self.assertEqual(where_ordered(nest, [(("i", 0),)]).spread("m", "n"), [(None, 5000)])
        self.assertEqual(where_ordered(nest, [(("0", 0),)]).spread("n"), [(0, 11999)])

    def test_givens_only_take_sizes_away(self):
        for nest in some_nests(13, 40):
            few = nest.supposing(("0", nest.sizes[0], -1), (nest.sizes[-1], "0", 3))
            kept = Region(nest.sizes, [few.given])
            self.assertTrue(where_inside(few).same(where_inside(nest) & kept))
            for path in loops_of(nest):
                self.assertTrue(where_near(few, path, 1).same(where_near(nest, path, 1) & kept))
                self.assertTrue(where_cut(few, path, ()).same(where_cut(nest, path, ()) & kept))
                for sizes in ({name: value for name in nest.sizes} for value in (0, 1, 3, 4)):
                    wanted = rounds(nest, path)(sizes) if sizes in kept else 0
                    self.assertEqual(rounds(few, path)(sizes), wanted)
            for path, many in itertools.product(loops_of(nest), (2, 3)):
                try:
                    one, late = shifts(nest, path, many), shifts(few, path, many)
                except ValueError:
                    continue
                if one:
                    self.assertTrue(late)
                    self.assertTrue(all(a >= b for a, b in zip(one.least, late.least)))


if __name__ == "__main__":
    unittest.main()
