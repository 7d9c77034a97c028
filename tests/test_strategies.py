"""[9]: strategies."""

import random
import unittest

from loopsheds.errors import BadFormula
from loopsheds.formulas import read_formula
from loopsheds.strategies import Strategy, strategy
from loopsheds.truths import decided
from tests.helpers import holds, meets, random_formula


class StrategiesTest(unittest.TestCase):
    def test_example(self):
        told = strategy(read_formula("all i: some j: j > i and j <= i + 1"))
        found = [told.winner, told.answer("j", {"i": 4}), strategy(read_formula("some j: all i: j > i")).winner]
        self.assertEqual(found, ['some', 5, 'all'])
        self.assertIsInstance(told, Strategy)
        self.assertEqual(told.prefix, [("all", "i"), ("some", "j")])
        self.assertEqual(list(told.moves), ["j"])
        self.assertTrue(bool(told) and "j" in told and "i" not in told and "x" not in told)
        self.assertEqual(told.answer("j", {"i": -10 ** 30, "j": 3, "x": 4}), 1 - 10 ** 30)

    def test_plays(self):
        """The winner wins whatever the other side does, and with any case that holds."""
        rng = random.Random(1)
        winners = []
        for _ in range(400):
            names = ["a", "b", "c", "d"]
            body = random_formula(rng, names, 3, 0)
            rng.shuffle(names)
            prefix = [(rng.choice(["all", "some"]), name) for name in names]
            formula = body
            for kind, name in prefix[::-1]:
                formula = (kind, name, formula)
            told = strategy(formula)
            winners.append(told.winner)
            self.assertEqual(told.prefix, prefix)
            self.assertEqual(list(told.moves), [name for kind, name in prefix if kind == told.winner])
            self.assertEqual(bool(told), decided(formula))
            for _ in range(8):
                point = self.played(rng, told)
                self.assertEqual(meets(body, point, 0), told.winner == "some", (formula, point))
        self.assertGreater(min(winners.count("all"), winners.count("some")), 100)

    def played(self, rng, told):
        point = {}
        for at, (kind, name) in enumerate(told.prefix):
            front = [earlier for _, earlier in told.prefix[:at]]
            if kind != told.winner:
                point[name] = rng.choice([rng.randint(-6, 6), rng.randint(-6, 6), rng.randint(-10 ** 20, 10 ** 20)])
                continue
            values = []
            for system, (base, shift) in told.moves[name]:
                self.assertIn(base, [*front, "0"])
                self.assertLessEqual({side for entry in system for side in entry[:2]}, {*front, "0"})
                if holds(system, point):
                    values.append(point.get(base, 0) + shift)
            self.assertEqual(told.answer(name, point), values[0])
            point[name] = rng.choice(values)
        return point

    def test_no_case(self):
        told = strategy(read_formula("some i: all j: some k: i = 0 and (i != 0 or k > j)"))
        self.assertEqual((told.winner, told.answer("i", {})), ("some", 0))
        self.assertIsNone(told.answer("k", {"i": 1, "j": 4}))
        self.assertGreater(told.answer("k", {"i": 0, "j": 4}), 4)

    def test_no_quantifiers(self):
        for text, winner in (("1 < 2", "some"), ("not 1 < 2", "all")):
            told = strategy(read_formula(text))
            self.assertEqual((told.winner, told.prefix, told.moves), (winner, [], {}))

    def test_long_prefix(self):
        names = [f"{one}{other}" for one in "abcdefgh" for other in "abcd"]
        rows = " and ".join(f"{late} > {early}" for early, late in zip(names, names[1:]))
        prefix = " ".join(f"{'all' if at == 0 else 'some'} {name}:" for at, name in enumerate(names))
        told = strategy(read_formula(f"{prefix} {rows}"))
        point = {"aa": 7}
        for name in names[1:]:
            point[name] = told.answer(name, point)
        self.assertEqual((told.winner, sorted(point.values())), ("some", list(point.values())))

    def test_refusals(self):
        cases = {"i < 3": "open", "all i: i < j": "open", "all i: (some k: k < i) and i < j": "open",
                 "all i: not (some j: i < j)": "prefix", "not (all i: i < 3)": "prefix",
                 "(all i: i < 3) or (some i: i < 3)": "prefix", "some k: 1 < 2 and (all i: i < 3)": "prefix"}
        for text, why in cases.items():
            with self.assertRaises(BadFormula) as caught:
                strategy(read_formula(text))
            self.assertEqual(caught.exception.why, why, text)
        with self.assertRaises(TypeError):
            strategy(formula=read_formula("1 < 2"))


if __name__ == "__main__":
    unittest.main()
