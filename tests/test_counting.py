"""[11], [12]: counts, and comparing them."""

import math
import random
import unittest
from fractions import Fraction

from loopsheds.comparing import unlike_at
from loopsheds.counting import Count, count, total
from loopsheds.differences import solution
from loopsheds.errors import BadName, Unbounded, Unlike
from loopsheds.polynomials import Poly
from loopsheds.regions import Region
from tests.helpers import box, holds, random_system

TRIANGLE = Region(("i", "j", "n"), [[("0", "i", 0), ("i", "j", 0), ("j", "n", -1)]])
HALF = Poly.of("n") * Poly.of("n", 1) * Poly.constant(1, 2)


def value(counted, point):
    """The exact value of a Count, from its rows."""
    found = [poly for system, poly in counted.rows if holds(system, point)]
    assert len(found) <= 1
    return Fraction(*found[0].fraction(point)) if found else Fraction(0)


def random_poly(rng, names):
    poly = Poly.constant(rng.randint(-2, 2), rng.randint(1, 3))
    for _ in range(rng.randint(0, 3)):
        poly = poly * Poly.of(rng.choice([*names, "0"]), rng.randint(-2, 2)) + rng.randint(-2, 2)
    return poly


def random_count(rng, names):
    systems = [random_system(rng, names, rng.randint(0, 4), -2, 4) for _ in range(rng.randint(0, 3))]
    return total(Region(names, systems), random_poly(rng, names))


class CountingTest(unittest.TestCase):
    def check_form(self, counted):
        self.assertIsInstance(counted, Count)
        self.assertEqual(list(counted), counted.rows)
        for at, (system, poly) in enumerate(counted.rows):
            self.assertIsNotNone(solution(system))
            self.assertTrue(poly)
            self.assertLessEqual({side for entry in system for side in entry[:2]}, {*counted.names, "0"})
            for late, _ in counted.rows[at + 1:]:
                self.assertIsNone(solution(system + late))

    def test_example(self):
        pairs = count(TRIANGLE, "i", "j")
        self.assertEqual([pairs({"n": 4}), pairs({"n": -3}), pairs.names], [10, 0, ("n",)])

    def test_point_by_point(self):
        rng = random.Random(1)
        for _ in range(60):
            others = ["n", "m"][:rng.randint(0, 2)]
            gone = ["i", "j"][:rng.randint(1, 2)]
            systems = []
            for _ in range(rng.randint(0, 3)):
                system = random_system(rng, gone + others, rng.randint(0, 3), -3, 4)
                for name in gone:
                    system.append((rng.choice([*others, "0"]), name, rng.randint(-2, 3)))
                    system.append((name, rng.choice([*others, "0"]), rng.randint(-2, 3)))
                systems.append(system)
            names = rng.sample(gone + others, len(gone + others))
            poly = random_poly(rng, names) if rng.random() < 0.6 else Poly.constant(1)
            rng.shuffle(gone)
            self.check_total(Region(names, systems), systems, poly, gone)

    def check_total(self, region, systems, poly, gone):
        counted = total(region, poly, *gone)
        self.check_form(counted)
        self.assertEqual(counted.names, tuple(name for name in region.names if name not in gone))
        inner = box(gone, -7, 7)
        for point in box(counted.names, -4, 4):
            points = [{**point, **more} for more in inner]
            wanted = sum(Fraction(*poly.fraction(one)) for one in points if any(holds(one_of, one) for one_of in systems))
            self.assertEqual(value(counted, point), wanted)
            self.assertEqual(counted({**point, "further": 3}), math.floor(wanted))

    def test_several_bounds(self):
        names = ("i", "j", "k", "n", "m")
        system = [("0", "i", 0), ("i", "n", 0), ("i", "m", 2), ("i", "j", 1), ("0", "j", -1), ("j", "m", 0), ("j", "n", 2),
                  ("0", "k", 1), ("i", "k", 0), ("k", "j", 0), ("k", "n", -1)]
        counted = count(Region(names, [system]), "k", "i", "j")
        self.check_form(counted)
        for point in box(("n", "m"), -1, 6):
            points = [{**point, **inner} for inner in box(("i", "j", "k"), -1, 9)]
            self.assertEqual(counted(point), sum(holds(system, one) for one in points))

    def test_far_from_zero(self):
        big = 10 ** 15
        counted = count(Region(("i", "n"), [[("0", "i", -big), ("i", "n", big)]]), "i")
        self.assertEqual([counted({"n": 0}), counted({"n": -1}), counted({"n": 10 ** 20})], [1, 0, 10 ** 20 + 1])

    def test_names_counted(self):
        region = Region(("i", "n"), [[("0", "i", 0), ("i", "n", 0), ("n", "0", 3)]])
        none = count(region)
        self.assertEqual((none.names, none({"i": 0, "n": 2}), none({"i": 3, "n": 2})), (("i", "n"), 1, 0))
        everything = count(region, "n", "i")
        self.assertEqual((everything.names, everything({})), ((), 10))
        self.assertEqual(count(Region.nothing(("i",)), "i").rows, [])
        self.assertEqual(count(Region.whole(()))({}), 1)
        self.assertEqual(total(region, Poly.constant(0), "i").rows, [])
        self.assertEqual(total(region, Poly.of("i"), "i")({"n": 3}), 6)

    def test_refusals(self):
        region = Region(("i", "j", "n"), [[("0", "i", 0), ("i", "n", 0)]])
        cases = [(BadName, ("x", 3), 3), (BadName, ("j", "0"), "0"), (BadName, ("", "x"), ""), (BadName, ("x", "i", "i"), "i"),
                 (BadName, ("i", "x", "y"), "x"), (BadName, ("j", "x"), "x"), (Unbounded, ("j",), "j"),
                 (Unbounded, ("i", "j"), "j"), (Unbounded, ("n", "i"), "n")]
        for kind, names, name in cases:
            for call in (lambda: count(region, *names), lambda: total(region, Poly.constant(0), *names)):
                with self.assertRaises(kind) as caught:
                    call()
                self.assertIn(caught.exception.name, (name, "i") if names == ("n", "i") else (name,))
        self.assertEqual(count(region, "i")({"j": 99, "n": 4}), 5)
        with self.assertRaises(Unbounded):
            count(Region(("i",), [[("0", "i", 0), ("i", "0", 3)], [("i", "0", -9)]]), "i")

    def test_endless_together(self):
        region = Region(("i", "j", "n"), [[("i", "j", 0), ("j", "i", 0), ("0", "n", 0)]])
        with self.assertRaises(Unbounded) as caught:
            count(region, "i", "j")
        self.assertIn(caught.exception.name, ("i", "j"))
        self.assertEqual(count(region, "i")({"j": 5, "n": 0}), 1)

    def test_operators(self):
        rng = random.Random(2)
        for _ in range(60):
            names = ["n", "m"][:rng.randint(1, 2)]
            one, other, poly = random_count(rng, names), random_count(rng, names), random_poly(rng, names)
            cases = [(one + other, lambda a, b, c: a + b), (one - other, lambda a, b, c: a - b), (-one, lambda a, b, c: -a),
                     (one * 3, lambda a, b, c: 3 * a), (-2 * one, lambda a, b, c: -2 * a), (one * poly, lambda a, b, c: a * c),
                     (poly * other, lambda a, b, c: b * c), (one * 0, lambda a, b, c: 0)]
            for counted, wanted in cases:
                self.check_form(counted)
                self.assertEqual(counted.names, tuple(names))
                for point in box(names, -5, 5)[::3]:
                    exact = wanted(value(one, point), value(other, point), Fraction(*poly.fraction(point)))
                    self.assertEqual(value(counted, point), exact)

    def test_unlike_names(self):
        one, other = count(Region.whole(("n", "m"))), count(Region.whole(("m", "n")))
        for call in (lambda: one + other, lambda: one - other, lambda: unlike_at(one, other)):
            with self.assertRaises(Unlike) as caught:
                call()
            self.assertEqual(caught.exception.what, "names")
        with self.assertRaises(TypeError):
            one * other


class ComparingTest(unittest.TestCase):
    def test_example(self):
        half = total(Region(("n",), [[("0", "n", 0)]]), HALF)
        self.assertIsNone(unlike_at(count(TRIANGLE, "i", "j"), half))
        self.assertIsNone(unlike_at(half, count(TRIANGLE, "j", "i")))

    def test_few_points(self):
        """Polynomials that are 0 at all of a few points, and not behind them."""
        nothing = total(Region.nothing(("n", "m")), Poly.constant(1))
        poly = Poly.constant(1, 3)
        for gap in range(5):
            poly = poly * (Poly.of("n") - Poly.of("m") - gap)
        near = [("m", "n", 0), ("n", "m", 4)]
        self.assertIsNone(unlike_at(total(Region(("n", "m"), [near]), poly), nothing))
        self.assertIsNone(unlike_at(nothing, total(Region(("n", "m"), [near]), poly)))
        far = total(Region(("n", "m"), [[("m", "n", 0), ("n", "m", 5), ("m", "0", -7), ("0", "m", 7)]]), poly)
        self.assertEqual(unlike_at(far, nothing), {"n": -2, "m": -7})
        self.assertEqual(unlike_at(nothing, far), {"n": -2, "m": -7})

    def test_before_rounding(self):
        whole = Region(("n",), [[]])
        self.assertIsNotNone(unlike_at(total(whole, Poly.constant(1, 2)), total(whole, Poly.constant(1, 3))))

    def test_random_counts(self):
        rng = random.Random(3)
        seen = []
        for _ in range(200):
            names = ["n", "m", "k"][:rng.randint(1, 3)]
            one, other = random_count(rng, names), random_count(rng, names)
            if rng.random() < 0.5:
                more = total(Region(names, [random_system(rng, names, 4, -2, 3)]), self.small(rng, names))
                other = one + more
            point = unlike_at(one, other)
            seen.append(point is None)
            if point is None:
                self.assertTrue(all(value(one, at) == value(other, at) for at in box(names, -5, 5)))
            else:
                self.assertEqual(list(point), names)
                self.assertNotEqual(value(one, point), value(other, point))
        self.assertGreater(min(seen.count(True), seen.count(False)), 40)

    def small(self, rng, names):
        """A polynomial with many zeros."""
        poly, name, base = Poly.of("0", 1), rng.choice(names), rng.choice([*names, "0"])
        for at in range(rng.randint(1, 4)):
            poly = poly * (Poly.of(name, at - 1) - Poly.of(base))
        return poly

    def test_orders_of_counting(self):
        system = [("0", "i", 0), ("i", "n", 0), ("i", "j", 2), ("j", "m", 0), ("j", "n", 3), ("k", "j", 0), ("i", "k", 4)]
        region = Region(("n", "i", "j", "k", "m"), [system])
        self.assertIsNone(unlike_at(count(region, "i", "j", "k"), count(region, "k", "j", "i")))
        once = count(region, "i", "j", "k") + count(Region(("n", "m"), [[("n", "0", 4), ("0", "n", -4), ("m", "n", 0)]]))
        self.assertEqual(unlike_at(count(region, "k", "i", "j"), once)["n"], 4)


if __name__ == "__main__":
    unittest.main()
