"""[8]: the truth of formulas."""

import random
import unittest

from loopsheds.errors import BadFormula, BadName
from loopsheds.formulas import free_names, read_formula
from loopsheds.truths import decided, holds_always, truth
from tests.helpers import box, meets, random_formula

BIG = 10 ** 17


class TruthsTest(unittest.TestCase):
    def test_examples(self):
        self.assertEqual(truth(read_formula("some i: i >= 0 and i + 2 <= n")).spread("n"), [(2, None)])
        told = [decided(read_formula("all i: some j: j > i")), decided(read_formula("some j: all i: j > i"))]
        self.assertEqual(told, [True, False])

    def test_point_by_point(self):
        rng = random.Random(1)
        for _ in range(150):
            formula = random_formula(rng, ["i", "j", "k"], 3, 2)
            region = truth(formula)
            free = free_names(formula)
            self.assertEqual(region.names, free)
            self.assertEqual(holds_always(formula), not ~region)
            for point in rng.sample(box(free, -4, 4), min(6, 9 ** len(free))):
                self.assertEqual(point in region, meets(formula, point, 15), formula)

    def test_each_operator(self):
        for word in ("=", "!=", "<", "<=", ">", ">="):
            for one, other in ((("i", 2), ("j", -1)), (("i", 0), ("0", 3)), (("0", 1), ("0", 1)), (("i", 1), ("i", 0))):
                formula = ("compare", word, one, other)
                region = truth(formula, ["i", "j"])
                denied = truth(("not", formula), ("i", "j"))
                for point in box(["i", "j"], -5, 5):
                    self.assertEqual(point in region, meets(formula, point, 0))
                    self.assertNotEqual(point in region, point in denied)

    def test_nested(self):
        cases = {
            "all i: some j: all k: some l: l > k and l < k + 2 and j = i + 1": True,
            "some i: all j: some k: j < k and k < i or j >= i - 1": True,
            "some i: all j: some k: j < k and k < i or j >= i": False,
            "all i j k: i < j and j < k or not (i < j and j < k)": True,
            "all i j k: not (i < j and j < k) or i + 2 <= k": True,
            "all i j k: not (i < j and j < k) or i + 3 <= k": False,
            "all a: some b: a < b and not some c: a < c and c < b": True,
            "all a b: some c: a < c and c < b or a >= b": False,
            "all a b: (some c: a < c and c < b) or a + 1 >= b": True,
            "all a b c d: some e: e != a and e != b and e != c and e != d and e >= 0 and e <= 4": True,
            "all a b c d: some e: e != a and e != b and e != c and e != d and e >= 0 and e <= 3": False,
            "1 < 2": True, "not 1 < 2": False, "some i: 2 = 2": True, "all i: i != i": False,
        }
        for text, wanted in cases.items():
            self.assertIs(decided(read_formula(text)), wanted, text)
            self.assertIs(holds_always(read_formula(text)), wanted, text)
            self.assertEqual(bool(truth(read_formula(text))), wanted)

    def test_names_bound_twice(self):
        inner = ("some", "i", ("compare", "=", ("i", 0), ("j", 5)))
        formula = ("all", "i", ("and", (inner, ("compare", "!=", ("i", 0), ("i", 1)))))
        self.assertTrue(holds_always(formula))
        formula = ("and", (("compare", "<", ("i", 0), ("0", 3)), ("some", "i", ("compare", ">", ("i", 0), ("0", 8)))))
        self.assertEqual(truth(formula).spread("i"), [(None, 2)])

    def test_names_given(self):
        formula = read_formula("i < n")
        region = truth(formula, ["m", "n", "i"])
        self.assertEqual(region.names, ("m", "n", "i"))
        self.assertIn({"m": 7, "n": 3, "i": 2}, region)
        self.assertEqual(truth(read_formula("some i: i < n"), ("n",)).spread("n"), [(None, None)])
        for names, name in ((("n", "0", "n"), "0"), (("n", "n", ""), "n"), (("n", 3), 3), ((), "i"), (("n",), "i"),
                            (("i", "m"), "n")):
            with self.assertRaises(BadName) as caught:
                truth(formula, names)
            self.assertEqual(caught.exception.name, name)

    def test_far_from_zero(self):
        formula = ("some", "j", ("and", (("compare", ">", ("j", 0), ("i", BIG)), ("compare", "<=", ("j", 0), ("n", 0)))))
        self.assertEqual(truth(formula).spread("n", "i"), [(BIG + 1, None)])

    def test_open_formulas(self):
        for text in ("i < j", "all i: i < j"):
            with self.assertRaises(BadFormula) as caught:
                decided(read_formula(text))
            self.assertEqual(caught.exception.why, "open")
        self.assertFalse(holds_always(read_formula("i < j")))
        self.assertTrue(holds_always(read_formula("i < j or i >= j")))

    def test_deep_formulas(self):
        formula = read_formula("not " * 3001 + "i < 3")
        self.assertEqual(truth(formula).spread("i"), [(3, None)])
        for _ in range(2000):
            formula = ("some", "j", ("and", (formula, ("compare", "<", ("i", 0), ("j", 0)))))
        self.assertEqual(truth(formula).spread("i"), [(3, None)])

    def test_by_position(self):
        formula = read_formula("i < 3")
        for call in (lambda: truth(formula, names=["i"]), lambda: holds_always(formula=formula),
                     lambda: decided(formula=formula)):
            with self.assertRaises(TypeError):
                call()


if __name__ == "__main__":
    unittest.main()
