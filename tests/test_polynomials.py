"""[10]: polynomials and sums of them."""

import math
import random
import unittest
from fractions import Fraction

from loopsheds.polynomials import Poly, power_sum, summed


def worth(poly, point):
    """The value at a point, from the terms."""
    found = Fraction(0)
    for monomial, many in poly.terms.items():
        found += many * math.prod(point[name] ** power for name, power in monomial)
    return found / poly.below


def random_poly(rng, names=("a", "b", "c")):
    found = Poly.constant(0)
    for _ in range(rng.randint(0, 4)):
        part = Poly.constant(rng.randint(-5, 5), rng.randint(1, 6))
        for _ in range(rng.randint(0, 4)):
            part = part * Poly.of(rng.choice(names), rng.randint(-2, 2))
        found = found + part
    return found


class PolynomialsTest(unittest.TestCase):
    def check_form(self, poly):
        self.assertEqual(list(poly.terms), sorted(poly.terms))
        self.assertTrue(poly.below > 0 and all(poly.terms.values()))
        self.assertEqual(math.gcd(poly.below, *poly.terms.values()), 1)
        for monomial in poly.terms:
            names = [name for name, _ in monomial]
            self.assertEqual(names, sorted(set(names)))
            self.assertTrue(all(power >= 1 for _, power in monomial) and isinstance(monomial, tuple))

    def test_example(self):
        half = Poly.of("n") * Poly.of("n", 1) * Poly.constant(1, 2)
        found = [half.terms, half.below, half({"n": 4}), power_sum(1, "x").fraction({"x": 4})]
        self.assertEqual(found, [{(('n', 1),): 1, (('n', 2),): 1}, 2, 10, (10, 1)])

    def test_form(self):
        cases = [(Poly.constant(6, 4), {(): 3}, 2), (Poly.constant(0, 7), {}, 1), (Poly.of("0"), {}, 1),
                 (Poly.of("0", -3), {(): -3}, 1), (Poly.of("x", 2), {(): 2, (("x", 1),): 1}, 1),
                 (Poly.of("b") * Poly.of("a") * Poly.of("b"), {(("a", 1), ("b", 2)): 1}, 1),
                 (Poly.of("a") - Poly.of("a"), {}, 1), (Poly.constant(1, 2) + Poly.constant(1, 2), {(): 1}, 1),
                 (Poly.constant(5), {(): 5}, 1), (Poly.constant(above=4, below=6), {(): 2}, 3)]
        for poly, terms, below in cases:
            self.check_form(poly)
            self.assertEqual((poly.terms, poly.below, bool(poly)), (terms, below, bool(terms)))

    def test_operators(self):
        rng = random.Random(1)
        for _ in range(300):
            one, other = random_poly(rng), random_poly(rng)
            point = {name: rng.randint(-6, 6) for name in "abc"}
            first, second, number = worth(one, point), worth(other, point), rng.randint(-4, 4)
            cases = [(one + other, first + second), (one - other, first - second), (one * other, first * second),
                     (one + number, first + number), (number + one, first + number), (one - number, first - number),
                     (number - one, number - first), (one * number, first * number), (number * one, first * number),
                     (-one, -first)]
            for poly, value in cases:
                self.check_form(poly)
                self.assertEqual(worth(poly, point), value)
                self.assertEqual(poly.fraction({**point, "z": 4}), (value.numerator, value.denominator))
                self.assertEqual(poly(point), math.floor(value))
            self.assertFalse(one - one)

    def test_rounded_down(self):
        half = Poly.of("n") * Poly.constant(1, 2)
        self.assertEqual([half({"n": value}) for value in (-3, -2, 3)], [-2, -1, 1])
        self.assertEqual(half.fraction({"n": -3}), (-3, 2))
        self.assertEqual(Poly.constant(0).fraction({}), (0, 1))

    def test_parts(self):
        rng = random.Random(2)
        for _ in range(200):
            poly, other = random_poly(rng), random_poly(rng)
            point = {name: rng.randint(-4, 4) for name in "abc"}
            rows = [poly.coefficient("a", many) for many in range(poly.degree("a") + 3)]
            self.assertEqual([bool(row) for row in rows[-3:]], [bool(poly) and bool(rows[-3]), False, False])
            for row in rows:
                self.check_form(row)
                self.assertEqual(row.degree("a"), 0)
            total = sum(worth(row, point) * point["a"] ** many for many, row in enumerate(rows))
            self.assertEqual(total, worth(poly, point))
            late, number = poly.put("a", other), poly.put("b", -3)
            self.check_form(late)
            self.assertEqual(worth(late, point), worth(poly, {**point, "a": worth(other, point)}))
            self.assertEqual(worth(number, point), worth(poly, {**point, "b": -3}))
            self.assertFalse(poly.put("b", Poly.of("b")) - poly)

    def test_degree(self):
        poly = Poly.of("a") * Poly.of("a") * Poly.of("b") + Poly.of("b", 4)
        self.assertEqual([poly.degree(name) for name in ("a", "b", "c")], [2, 1, 0])
        self.assertEqual(Poly.constant(0).degree("a"), 0)
        self.assertEqual(poly.coefficient("a", 2).terms, {(("b", 1),): 1})
        self.assertEqual(poly.coefficient("c", 0).terms, poly.terms)

    def test_power_sums(self):
        for many in range(13):
            poly = power_sum(many, "x")
            self.check_form(poly)
            self.assertEqual(poly.fraction({"x": -1}), (0, 1))
            for value in range(-5, 12):
                rise = worth(poly, {"x": value}) - worth(poly, {"x": value - 1})
                self.assertEqual(rise, value ** many)
        self.assertEqual(power_sum(0, "y").terms, {(): 1, (("y", 1),): 1})
        self.assertEqual(power_sum(20, "x")({"x": 9}), sum(value ** 20 for value in range(10)))

    def test_summed(self):
        rng = random.Random(3)
        for _ in range(200):
            poly = random_poly(rng)
            point = {name: rng.randint(-4, 4) for name in "abc"}
            low = rng.randint(-5, 5)
            high = low - 1 + rng.randint(0, 6)
            wanted = sum(worth(poly, {**point, "a": value}) for value in range(low, high + 1))
            self.assertEqual(worth(summed(poly, "a", low, high), point), wanted)
            atoms = summed(poly, "a", Poly.of("b", low - point["b"]), Poly.of("c", high - point["c"]))
            self.assertEqual(worth(atoms, point), wanted)
            self.check_form(atoms)
            self.assertEqual(atoms.degree("a"), 0)

    def test_what_is_handed_out(self):
        poly = Poly.of("a", 1)
        for other in (poly + 0, poly * 1, poly.put("b", 3), poly.coefficient("b", 0), -(-poly), 0 + poly):
            other.terms.clear()
            self.assertEqual(poly({"a": 2}), 3)

    def test_other_kinds(self):
        for call in (lambda: Poly.of("a") + "1", lambda: None - Poly.of("a"), lambda: Poly.of("a") * [1]):
            with self.assertRaises(TypeError):
                call()


if __name__ == "__main__":
    unittest.main()
