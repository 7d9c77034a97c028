"""[2], [3], [4], [5]: systems, rings, solutions, greatest values, chains, and the fewest differences."""

import copy
import itertools
import random
import unittest

from loopsheds.differences import chain, implied, ring, solution, tight
from loopsheds.errors import BadDifference, BadName, NoSolution
from loopsheds.fewest import fewest
from tests.helpers import box, holds, random_system

BIG = 999999999999999999
WRONG = [None, 5, "abc", ("a", "b"), ("a", "b", 1, 2), ("a", "a", 1), ("0", "0", 1), ("", "b", 1), ("a", "", 1),
         ("a", 3, 1), ("a", "b", True), ("a", "b", "1"), ("a", "b", None), ("a", "b", 1.0), {"a", "b", 1}]


def is_ring(system, positions):
    if len(positions) < 2 or len({system[at][0] for at in positions}) < len(positions):
        return False
    nexts = positions[1:] + positions[:1]
    return all(system[at][1] == system[late][0] for at, late in zip(positions, nexts))


class DifferencesTest(unittest.TestCase):
    def test_examples(self):
        system = [("i", "n", -1), ("0", "i", 0), ("n", "0", 5)]
        told = [ring(system), tight(system, "i", "0"), chain(system, "i", "0"), implied(system, ("i", "0", 3))]
        self.assertEqual(told, [None, 4, [0, 2], False])
        self.assertEqual(sorted(ring(system + [("n", "i", 0)])), [0, 3])

    def test_ring_or_solution(self):
        rng = random.Random(1)
        rings = 0
        for size in (3, 30) * 200:
            names = [f"x{at}" for at in range(rng.randint(1, size))]
            reach = rng.choice([3, BIG])
            system = random_system(rng, names, rng.randint(0, 3 * len(names)), -reach, reach)
            found, point = ring(system), solution(system)
            if found is None:
                self.assertEqual(set(point), {side for entry in system for side in entry[:2]} - {"0"})
                self.assertTrue(holds(system, point))
            else:
                rings += 1
                self.assertIsNone(point)
                self.assertTrue(is_ring(system, found))
                self.assertLess(sum(system[at][2] for at in found), 0)
        self.assertTrue(100 < rings < 350)

    def test_small_systems(self):
        self.assertEqual((ring([]), solution([])), (None, {}))
        self.assertEqual(solution(()), {})
        self.assertIsNone(ring((["a", "0", -BIG], ("0", "a", BIG))))
        self.assertEqual(solution([("a", "0", -BIG), ("0", "a", BIG)]), {"a": -BIG})
        self.assertEqual(sorted(ring([("a", "0", -BIG), ("0", "a", BIG - 1)])), [0, 1])

    def test_long_ring(self):
        system = [(f"x{at}", f"x{at + 1}", BIG) for at in range(400)]
        closing = [("x400", "x0", -400 * BIG)]
        self.assertIsNone(ring(system + closing))
        self.assertEqual(tight(system + closing, "x0", "x400"), 400 * BIG)
        found = ring(system + [("x400", "x0", -400 * BIG - 1)])
        self.assertEqual(sorted(found), list(range(401)))
        self.assertIsNone(ring([(right, left, -1) for left, right, _ in system][::-1]))

    def test_wrong_systems(self):
        good = ("a", "b", 1)
        for entry in WRONG:
            for place in (0, 2):
                system = [good] * place + [entry, None]
                calls = [lambda: ring(system), lambda: solution(system), lambda: tight(system, "", ""),
                         lambda: chain(system, "", ""), lambda: implied(system, None), lambda: fewest(system)]
                for call in calls:
                    with self.assertRaises(BadDifference) as caught:
                        call()
                    self.assertEqual(caught.exception.place, place)

    def test_arguments_are_left(self):
        system = [["a", "b", 1], ("b", "0", 2)]
        before = copy.deepcopy(system)
        for call in (ring, solution, fewest):
            call(system)
        tight(system, "a", "0"), chain(system, "a", "0"), implied(system, ["a", "0", 3])
        self.assertEqual(system, before)
        fewest(system).clear()
        self.assertEqual(system, before)

    def test_by_position_alone(self):
        for call in (lambda: ring(system=[]), lambda: tight([], "a", right="b"), lambda: fewest(system=[])):
            with self.assertRaises(TypeError):
                call()


class LimitsTest(unittest.TestCase):
    def test_tight_and_chain(self):
        rng = random.Random(2)
        seen = set()
        for _ in range(400):
            names = ["a", "b", "c", "d"]
            system = random_system(rng, names, rng.randint(0, 9), -4, 9)
            if ring(system) is not None:
                continue
            for left, right in itertools.product([*names, "0"], repeat=2):
                most, found = tight(system, left, right), chain(system, left, right)
                seen.add((most is None, found == []))
                if most is None:
                    self.assertIsNone(found)
                    self.assertTrue(left != right and solution([*system, (right, left, -10 ** 9)]))
                    self.assertFalse(implied(system, (left, right, 10 ** 15)))
                elif left == right:
                    self.assertEqual((most, found), (0, []))
                else:
                    self.check_chain(system, left, right, most, found)
        self.assertEqual(seen, {(True, False), (False, True), (False, False)})

    def check_chain(self, system, left, right, most, found):
        self.assertEqual(len(set(found)), len(found))
        self.assertEqual(sum(system[at][2] for at in found), most)
        self.assertEqual([left, *[system[at][1] for at in found]], [*[system[at][0] for at in found], right])
        self.assertIsNotNone(solution([*system, (right, left, -most)]))
        self.assertIsNone(solution([*system, (right, left, -most - 1)]))
        self.assertTrue(implied(system, (left, right, most)))
        self.assertFalse(implied(system, [left, right, most - 1]))

    def test_ring_of_sum_zero(self):
        system = [("a", "b", 2), ("b", "a", -2), ("b", "c", 1)]
        self.assertEqual(chain(system, "a", "c"), [0, 2])
        self.assertEqual(tight(system, "b", "a"), -2)

    def test_names_that_are_not_there(self):
        self.assertIsNone(tight([("a", "b", 1)], "x", "y"))
        self.assertIsNone(chain([("a", "b", 1)], "a", "y"))
        self.assertEqual(tight([], "x", "x"), 0)
        self.assertEqual(chain([], "0", "0"), [])

    def test_wrong_arguments(self):
        empty = [("a", "0", -1), ("0", "a", 0)]
        for call in (tight, chain):
            for left, right, name in (("", None, ""), ("a", 3, 3), (("a",), "b", ("a",)), ("0", "", "")):
                with self.assertRaises(BadName) as caught:
                    call(empty, left, right)
                self.assertEqual(caught.exception.name, name)
            for sides in (("a", "a"), ("a", "b"), ("x", "0")):
                with self.assertRaises(NoSolution):
                    call(empty, *sides)
        for wrong in WRONG:
            with self.assertRaises(BadDifference) as caught:
                implied([("a", "b", 1)] * 3, wrong)
            self.assertEqual(caught.exception.place, 0)

    def test_no_solution_implies_all(self):
        empty = [("a", "0", -1), ("0", "a", 0)]
        self.assertIs(implied(empty, ("x", "y", -BIG)), True)
        self.assertIs(implied([], ("x", "y", BIG)), False)


class FewestTest(unittest.TestCase):
    def test_example(self):
        self.assertEqual(len(fewest([("a", "b", 0), ("b", "a", 0), ("a", "c", 1), ("b", "c", 1)])), 3)

    def test_no_solution(self):
        with self.assertRaises(NoSolution):
            fewest([("a", "0", -1), ("0", "a", 0)])
        self.assertEqual(fewest([]), [])

    def closed(self, system, names):
        """The limits of all pairs that have one: these are the same for the same solutions."""
        sides = [*names, "0"]
        pairs = [(left, right) for left in sides for right in sides if left != right]
        found = {(left, right): tight(system, left, right) for left, right in pairs}
        return {pair: limit for pair, limit in found.items() if limit is not None}

    def check(self, system, names):
        found = fewest(system)
        self.assertTrue(all(isinstance(entry, tuple) and len(entry) == 3 for entry in found))
        self.assertLessEqual({side for entry in found for side in entry[:2]}, {*names, "0"})
        limits = self.closed(system, names)
        self.assertEqual(self.closed(found, names), limits)
        return found, [(*pair, limit) for pair, limit in limits.items()]

    def test_no_list_is_shorter(self):
        rng = random.Random(3)
        for _ in range(120):
            names = ["a", "b", "c"]
            system = random_system(rng, names, rng.randint(1, 7), 0, 2)
            for left, right in rng.sample([("a", "b"), ("b", "c"), ("c", "0"), ("a", "0")], rng.randint(0, 3)):
                system = system + [(left, right, 1), (right, left, -1)]
            if ring(system) is not None:
                continue
            found, entries = self.check(system, names)
            if found:
                for fewer in itertools.combinations(entries, len(found) - 1):
                    self.assertNotEqual(self.closed(list(fewer), names), self.closed(system, names))

    def test_rings_of_sum_zero(self):
        ring_of = [(f"x{at}", f"x{(at + 1) % 6}", at) for at in range(5)] + [("x5", "x0", -10)]
        more = [("x2", "x0", -1), ("x0", "0", 7), ("x3", "0", 9), ("0", "x5", 50)]
        found, _ = self.check(ring_of + more, [f"x{at}" for at in range(6)])
        self.assertEqual(len(found), 8)

    def test_big_limits(self):
        found, _ = self.check([("a", "b", BIG), ("b", "c", BIG), ("a", "c", 2 * BIG)], ["a", "b", "c"])
        self.assertEqual(len(found), 2)
        found, _ = self.check([("a", "b", BIG), ("b", "c", BIG), ("a", "c", 2 * BIG - 1)], ["a", "b", "c"])
        self.assertEqual(len(found), 3)

    def test_many_names(self):
        rng = random.Random(4)
        names = [f"x{at}" for at in range(40)]
        values = {name: rng.randint(-BIG, BIG) for name in names}
        system = []
        for _ in range(160):
            left, right = rng.sample(names, 2)
            system.append((left, right, values[left] - values[right] + rng.choice([0, 0, 5, 1000])))
        found = fewest(system)
        self.assertLessEqual(len(found), 160)
        self.assertTrue(all(implied(found, entry) for entry in system))
        self.assertTrue(all(implied(system, entry) for entry in found))
        for at in range(len(found)):
            self.assertFalse(implied(found[:at] + found[at + 1:], found[at]))

    def test_solutions_stay(self):
        system = [("a", "b", 1), ("b", "0", 2), ("0", "a", 3), ("a", "0", 9)]
        for point in box(["a", "b"], -6, 6):
            self.assertEqual(holds(system, point), holds(fewest(system), point))


if __name__ == "__main__":
    unittest.main()
