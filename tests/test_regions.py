"""[6]: regions."""

import copy
import random
import unittest

from loopsheds.differences import solution
from loopsheds.errors import BadDifference, BadName, NoSolution, Unbounded, Unlike
from loopsheds.regions import Region
from tests.helpers import box, holds, random_system

BIG = 999999999999999999
NAMES = ("a", "b", "c")
POINTS = box(NAMES, -6, 6)


def random_systems(rng, names, most=3):
    return [random_system(rng, names, rng.randint(0, 5), -3, 3) for _ in range(rng.randint(0, most))]


def places(systems):
    """Which points of the box solve one of the systems, as the places of these points."""
    return {at for at, point in enumerate(POINTS) if any(holds(system, point) for system in systems)}


def spots(region):
    """The same for a region, by its operator and by its pieces."""
    found = {at for at, point in enumerate(POINTS) if point in region}
    assert found == places(region.pieces)
    return found


class RegionTest(unittest.TestCase):
    def test_examples(self):
        region = Region(("i", "n"), [[("0", "i", 0), ("i", "n", 0)], [("i", "0", -3), ("n", "i", -2)]])
        found = [{"i": 2, "n": 5} in region, {"i": 2, "n": 1} in region, {"i": -4, "n": -6} in region]
        self.assertEqual(found, [True, False, True])
        found = [region.spread("i", "n"), region.shadow("n").spread("n")]
        self.assertEqual(found, [[(None, 0), (2, None)], [(None, -5), (0, None)]])

    def test_operators(self):
        rng = random.Random(1)
        for _ in range(40):
            first, second = random_systems(rng, NAMES), random_systems(rng, NAMES)
            one, other = Region(NAMES, first), Region(NAMES, second)
            ones, others = places(first), places(second)
            self.assertEqual(spots(one), ones)
            self.assertEqual(spots(one & other), ones & others)
            self.assertEqual(spots(one | other), ones | others)
            self.assertEqual(spots(one - other), ones - others)
            self.assertEqual(spots(~one), set(range(len(POINTS))) - ones)
            self.assertEqual(bool(one), any(solution(system) is not None for system in first))
            self.check_comparing(one, other)
            self.check_apart(one, ones)

    def check_comparing(self, one, other):
        self.assertTrue((~~one).same(one))
        self.assertTrue((one | ~one).same(Region.whole(NAMES)))
        self.assertFalse(one & ~one)
        rest = (one - other).point()
        self.assertEqual(one.within(other), rest is None)
        self.assertEqual(one.same(other), rest is None and (other - one).point() is None)
        if rest is not None:
            self.assertTrue(rest in one and rest not in other)

    def check_apart(self, one, ones):
        pieces = one.apart().pieces
        self.assertEqual(places(pieces), ones)
        for at, piece in enumerate(pieces):
            self.assertIsNotNone(solution(piece))
            for late in pieces[at + 1:]:
                self.assertIsNone(solution(piece + late))

    def test_shadow(self):
        rng = random.Random(2)
        for _ in range(40):
            systems = random_systems(rng, NAMES)
            region = Region(NAMES, systems)
            for kept in ((), ("b",), ("c", "a"), ("c", "b", "a")):
                shadow = region.shadow(*kept)
                self.assertEqual(shadow.names, kept)
                for point in box(kept, -3, 3):
                    fixed = [(name, "0", value) for name, value in point.items()]
                    fixed += [("0", name, -value) for name, value in point.items()]
                    wanted = any(solution(system + fixed) is not None for system in systems)
                    self.assertEqual(point in shadow, wanted)

    def test_over_renamed_fixed(self):
        rng = random.Random(3)
        for _ in range(40):
            systems = random_systems(rng, NAMES)
            region = Region(NAMES, systems)
            wide = region.over("z", "c", "b", "y", "a")
            late = region.renamed("c", "x", "a")
            part = region.fixed({"b": 2})
            self.assertEqual((wide.names, late.names, part.names), (("z", "c", "b", "y", "a"), ("c", "x", "a"), ("a", "c")))
            self.assertEqual(region.fixed({"c": 1, "a": BIG, "b": 0}).names, ())
            for point in rng.sample(POINTS, 200):
                wanted = point in region
                self.assertEqual({**point, "z": 55, "y": -BIG} in wide, wanted)
                self.assertEqual({"c": point["a"], "x": point["b"], "a": point["c"]} in late, wanted)
                self.assertEqual(point in part, {**point, "b": 2} in region)
                self.assertEqual(bool(region.fixed(point)), wanted)

    def test_points(self):
        rng = random.Random(4)
        ended = 0
        for turn in range(300):
            systems = random_systems(rng, NAMES)
            if turn % 2:
                systems = [system + [("0", name, 4) for name in NAMES[:turn % 3 + 1]] for system in systems]
            region = Region(NAMES, systems)
            point = region.point()
            self.assertEqual(point is None, not region)
            if point is not None:
                self.assertEqual(list(point), list(NAMES))
                self.assertTrue(any(holds(system, point) for system in systems))
            try:
                first = region.first_point()
            except Unbounded as error:
                self.check_endless(region, error.name)
            else:
                ended += first is not None
                self.check_first(region, first)
        self.assertGreater(ended, 20)

    def check_first(self, region, first):
        if first is None:
            self.assertFalse(region)
            return
        self.assertIn(first, region)
        values = {}
        for name in NAMES:
            self.assertEqual(region.fixed(values).spread(name)[0][0], first[name])
            values[name] = first[name]

    def check_endless(self, region, name):
        values = {}
        for earlier in NAMES[:NAMES.index(name)]:
            values[earlier] = region.fixed(values).spread(earlier)[0][0]
            self.assertIsNotNone(values[earlier])
        self.assertIsNone(region.fixed(values).spread(name)[0][0])

    def test_first_point_of_two_pieces(self):
        region = Region(("i", "j"), [[("0", "i", 0), ("0", "j", 5)], [("0", "i", 0), ("i", "0", 3), ("0", "j", 7)],
                                     [("0", "i", -1)]])
        self.assertEqual(region.first_point(), {"i": 0, "j": -7})
        with self.assertRaises(Unbounded) as caught:
            Region(("i", "j"), [[("0", "i", 0)]]).first_point()
        self.assertEqual(caught.exception.name, "j")
        self.assertIsNone(Region.nothing(("i",)).first_point())
        self.assertEqual(Region.whole(()).first_point(), {})

    def test_spread_and_hull(self):
        rng = random.Random(5)
        for _ in range(60):
            systems = [system + [(name, "0", 6) for name in NAMES] + [("0", name, 6) for name in NAMES]
                       for system in random_systems(rng, NAMES)]
            region = Region(NAMES, systems)
            points = [{**point, "0": 0} for point in POINTS if any(holds(system, point) for system in systems)]
            for left, right in (("a", "0"), ("b", "c"), ("0", "c"), ("c", "a"), ("a", "a"), ("0", "0")):
                values = {point[left] - point[right] for point in points}
                stretches = region.spread(left, right)
                self.assertEqual({value for low, high in stretches for value in range(low, high + 1)}, values)
                for one, other in zip(stretches, stretches[1:]):
                    self.assertLess(one[1] + 1, other[0])
            if points:
                self.check_hull(region, points)

    def check_hull(self, region, points):
        sides = [*NAMES, "0"]
        wanted = {(left, right, max(point[left] - point[right] for point in points))
                  for left in sides for right in sides if left != right}
        found = region.hull()
        self.assertEqual(set(found), wanted)
        self.assertEqual(len(found), len(wanted))

    def test_spread_without_ends(self):
        region = Region(("i", "n"), [[("i", "0", -9)], [("0", "i", -BIG)], [("i", "0", 5), ("0", "i", -3)]])
        self.assertEqual(region.spread("i"), [(None, -9), (3, 5), (BIG, None)])
        self.assertEqual(region.spread("0", "i"), [(None, -BIG), (-5, -3), (9, None)])
        self.assertEqual(region.spread("n"), [(None, None)])
        self.assertEqual(region.spread("i", right="i"), [(0, 0)])
        self.assertEqual(Region(("i",), [[("i", "0", 2)], [("0", "i", -3)]]).spread("i"), [(None, None)])
        self.assertEqual(Region.nothing(("i",)).spread("i"), [])
        self.assertEqual(region.hull(), [])
        self.assertEqual(Region(("i", "n"), [[("i", "n", 2)], [("i", "n", 5)]]).hull(), [("i", "n", 5)])

    def test_no_names_and_no_systems(self):
        whole, nothing = Region.whole(()), Region.nothing([])
        self.assertEqual((whole.names, whole.pieces, nothing.names, nothing.pieces), ((), [[]], (), []))
        self.assertTrue({} in whole and {"x": 3} in whole and {} not in nothing)
        self.assertTrue((~nothing).same(whole) and (~whole).same(nothing))
        self.assertEqual((whole.point(), nothing.point(), whole.hull()), ({}, None, []))
        self.assertTrue(bool(Region(("a",), [[]])) and not Region(("a",), []))
        self.assertEqual(Region(("a",), [[("a", "0", 1), ("0", "a", -2)]]).pieces, [])
        self.assertTrue(Region.whole(("a",)).shadow().same(whole))
        self.assertTrue(whole.over("a").same(Region.whole(["a"])))

    def test_changes_outside_change_nothing(self):
        names, systems = ["a", "b"], [[["a", "b", 1]], [("b", "0", 2)]]
        before = copy.deepcopy((names, systems))
        region = Region(names, systems)
        self.assertEqual((names, systems), before)
        names.append("c"), systems[0][0].clear(), systems[1].append(("a", "0", 0)), systems.clear()
        for found in (region.pieces, region.hull(), region.spread("a")):
            found.clear()
        region.pieces[0].append(("a", "0", 0))
        region.point().clear()
        self.assertEqual(region.names, ("a", "b"))
        self.assertTrue(region.same(Region(*before)))
        late = region | region
        late.pieces[0].clear()
        self.assertTrue(region.same(late) and region.over("a", "b").same(late))

    def test_big_numbers(self):
        system = [("a", "b", BIG), ("b", "c", BIG), ("c", "0", BIG), ("0", "a", 4 * BIG)]
        region = Region(NAMES, [system])
        self.assertEqual(region.spread("a"), [(-4 * BIG, 3 * BIG)])
        self.assertEqual((~region & Region(NAMES, [system[:3]])).spread("a"), [(None, -4 * BIG - 1)])
        self.assertNotIn({"a": 3 * BIG + 1, "b": 2 * BIG, "c": BIG}, region)


class RefusalsTest(unittest.TestCase):
    def refused(self, kind, call, **attributes):
        with self.assertRaises(kind) as caught:
            call()
        for name, value in attributes.items():
            self.assertEqual(getattr(caught.exception, name), value)

    def test_names_and_systems(self):
        bad = [[("a", "b", 1), ("a", "x", 1)], [3]]
        for names, name in ((("a", "0", ""), "0"), (("a", "", "a"), ""), (("a", "b", "a"), "a"), ((3, "a"), 3),
                            ((["a"],), ["a"]), ((True,), True)):
            for make in (lambda: Region(names, bad), lambda: Region.whole(names), lambda: Region.nothing(names)):
                self.refused(BadName, make, name=name)
        self.refused(BadDifference, lambda: Region(("a", "b"), bad), place=1)
        self.refused(BadDifference, lambda: Region(("a", "x", "b"), bad), place=0)
        for entry in (("a", "x", 0), ("x", "0", 0), ("a", "a", 0), ("a", "0", True), ["a", "0"], None):
            self.refused(BadDifference, lambda: Region(("a",), [[], [("a", "0", 1)] * 3 + [entry]]), place=3)

    def test_unlike_names(self):
        one = Region(("a", "b"), [[]])
        for names in (("b", "a"), ("a",), ("a", "c"), ("a", "b", "c")):
            other = Region.whole(names)
            for call in (lambda: one & other, lambda: one | other, lambda: one - other, lambda: one.within(other),
                         lambda: one.same(other)):
                self.refused(Unlike, call, what="names")

    def test_methods(self):
        one = Region(("a", "b"), [[]])
        for call in (one.shadow, one.over, one.renamed):
            for names, name in ((("x", 3), 3), (("x", "0"), "0"), (("x", "", "x"), ""), (("a", "x", "a", 3), "a")):
                self.refused(BadName, lambda: call(*names), name=name)
        self.refused(BadName, lambda: one.shadow("b", "x", "y"), name="x")
        self.refused(BadName, lambda: one.over("x", "b"), name="a")
        self.refused(BadName, lambda: one.over(), name="a")
        self.refused(Unlike, lambda: one.renamed("x"), what="names")
        self.refused(Unlike, lambda: one.renamed("x", "y", "z"), what="names")
        self.refused(BadName, lambda: one.fixed({"a": 1, "x": 2, "y": 3}), name="x")
        self.refused(BadName, lambda: one.fixed({"0": 1}), name="0")
        self.refused(BadName, lambda: one.spread("x", "y"), name="x")
        self.refused(BadName, lambda: one.spread("a", "y"), name="y")
        self.refused(BadName, lambda: one.spread("", ""), name="")
        self.refused(BadName, lambda: one.spread(["a"]), name=["a"])
        self.refused(NoSolution, lambda: Region.nothing(("a",)).hull())
        self.refused(Unbounded, lambda: one.first_point(), name="a")


if __name__ == "__main__":
    unittest.main()
