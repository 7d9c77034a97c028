"""[15]: runs, steps, traces, endings and plays."""

import random
import unittest

from loopsheds.faults import BadNest, BadSizes, TooMany
from loopsheds.nests import Nest, bounds, statements
from loopsheds.running import MOST, Play, count_steps, endings, play, runs, trace
from tests.helpers import box, holds

ZERO = ("0", 0)
WALK = Nest(("n",), (), {}, ("a",), (
    ("loop", "i", (("0", 1),), (("n", 0),), False, (
        ("run", "f", (("i", 0),), ("a", (("i", 0),)), (("a", (("i", -1),)),)),)),))


def values_of(atoms, values):
    return tuple(values[name] + shift for name, shift in atoms)


def walked(body, values, steps):
    """The runs of a body by hand: label, numbers, counters and cells; `steps` gets an entry a step."""
    for node in body:
        if node[0] == "run":
            steps.append(node)
            cells = [(array, values_of(atoms, values)) for array, atoms in (node[3], *node[4])]
            counters = tuple(value for name, value in values.items() if name not in ("0", "n", "m"))
            yield node[1], values_of(node[2], values), counters, cells[0], tuple(cells[1:])
        elif node[0] == "test":
            if holds(node[1], values):
                yield from walked(node[2], values, steps)
        else:
            _, counter, lows, highs, down, inner = node
            rounds = range(max(values_of(lows, values)), min(values_of(highs, values)) + 1)
            for value in rounds[::-1] if down else rounds:
                steps.append(value)
                yield from walked(inner, {**values, counter: value}, steps)


def random_body(rng, scope, depth):
    nodes = []
    for _ in range(rng.randint(1, 3)):
        def atom(spread=2):
            return (rng.choice([*scope, "0"]), rng.randint(-spread, spread))
        kind = rng.choice(["loop", "test", "run"]) if depth else "run"
        if kind == "loop":
            lows, highs = [tuple({atom(): 1 for _ in range(rng.randint(1, 2))}) for _ in range(2)]
            counter = f"c{depth}"
            nodes.append(("loop", counter, lows, highs, rng.random() < 0.4, random_body(rng, [*scope, counter], depth - 1)))
        elif kind == "test":
            left, right = rng.sample([*scope, "0"], 2)
            nodes.append(("test", ((left, right, rng.randint(-1, 3)),), random_body(rng, scope, depth - 1)))
        else:
            reads = tuple((rng.choice("ab"), (atom(), atom())) for _ in range(2))
            nodes.append(("run", rng.choice("fg"), (atom(), atom()), (rng.choice("ab"), (atom(), atom())), reads))
    return tuple(nodes)


class RunsTest(unittest.TestCase):
    def test_example(self):
        weighted = lambda label, numbers, values: 2 + sum(numbers) + sum(values)
        found = [trace(WALK, {'n': 2}), endings(WALK, {'n': 1}), count_steps(WALK, {'n': 2}),
                 play(WALK, {'n': 2}, weighted, lambda array, numbers: 5).cells]
        self.assertEqual(found, [
            [(('f', (1,)), (('first', 'a', (0,)),)), (('f', (2,)), (('run', 'f', (1,)),))], {('a', (1,)): ('f', (1,))}, 4,
            {('a', (1,)): 8, ('a', (2,)): 12}])

    def test_walks_by_hand(self):
        rng = random.Random(1)
        many = 0
        for _ in range(300):
            nest = Nest(("n", "m"), (), {}, (), random_body(rng, ["n", "m"], 4))
            sizes = {"m": rng.randint(0, 4), "n": rng.randint(0, 4)}
            steps = []
            wanted = list(walked(nest.body, {**sizes, "0": 0}, steps))
            many += len(wanted)
            self.assertEqual(count_steps(nest, sizes, most=len(steps)), len(steps))
            found = list(runs(nest, sizes, most=len(steps)))
            told = [(run.label, run.numbers, run.counters, run.writes, run.reads) for run in found]
            self.assertEqual(told, wanted)
            self.check_places(nest, sizes, found)
            self.check_sources(nest, sizes, len(steps), wanted)
        self.assertGreater(many, 1000)

    def check_places(self, nest, sizes, found):
        rows = statements(nest)
        for run in found:
            self.assertEqual((run.label, run.name), (rows[run.place].label, (run.label, run.numbers)))
            point = {**sizes, **dict(zip(rows[run.place].counters, run.counters))}
            self.assertTrue(holds(bounds(nest, run.place), point))

    def check_sources(self, nest, sizes, most, wanted):
        writers, sources = {}, []
        for label, numbers, _, writes, reads in wanted:
            told = tuple(("run", *writers[cell]) if cell in writers else ("first", *cell) for cell in reads)
            sources.append(((label, numbers), told))
            writers[writes] = (label, numbers)
        self.assertEqual(trace(nest, sizes, most=most), sources)
        last = endings(nest, sizes, most=most)
        self.assertEqual(list(last.items()), sorted(writers.items()))

    def test_runs_are_those_of_the_bounds(self):
        body = (("loop", "i", (ZERO, ("m", -2)), (("n", 0),), True, (
            ("loop", "j", (("i", -1),), (("n", 1), ("m", 3)), False, (
                ("test", (("j", "i", 1), ("0", "j", -1)), (("run", "f", (("i", 0), ("j", 0)), ("a", ()), ()),)),)),)),)
        nest = Nest(("n", "m"), (), {}, (), body)
        for sizes in box(("n", "m"), 0, 4):
            found = [run.counters for run in runs(nest, sizes)]
            points = [(i, j) for i in range(6, -1, -1) for j in range(-3, 9)
                      if holds(bounds(nest, 0), {**sizes, "i": i, "j": j})]
            self.assertEqual(found, points)

    def test_steps(self):
        for size in range(4):
            self.assertEqual(count_steps(WALK, {"n": size}), 2 * size)
        empty = Nest(("n",), (), {}, (), (("loop", "i", (ZERO,), (("n", -9999),), False, (("run", "f", (), ("a", ()), ()),)),))
        self.assertEqual(count_steps(empty, {"n": 9998}, most=0), 0)
        tested = Nest(("n",), (), {}, (), (("test", (("n", "0", 3),), (("test", (("0", "n", 0),), (WALK.body[0],)),)),))
        self.assertEqual([count_steps(tested, {"n": size}) for size in (3, 4)], [6, 0])

    def test_too_many(self):
        self.assertEqual(MOST, 20000)
        self.assertEqual(count_steps(WALK, {"n": 10000}), 20000)
        calls = [lambda **most: count_steps(WALK, {"n": 10001}, **most), lambda **most: trace(WALK, {"n": 10001}, **most),
                 lambda **most: endings(WALK, {"n": 10001}, **most), lambda **most: list(runs(WALK, {"n": 10001}, **most)),
                 lambda **most: play(WALK, {"n": 10001}, lambda *told: 0, lambda *told: 0, **most)]
        for call in calls:
            for most in (MOST, 20001, 0, 7):
                with self.assertRaises(TooMany) as caught:
                    call(most=most)
                self.assertEqual(caught.exception.most, most)
            with self.assertRaises(TooMany):
                call()
            call(most=20002)

    def test_the_due_step(self):
        """With room for three steps there is one run: round 1, its run, round 2; the next run is too much."""
        for most, wanted in ((0, 0), (1, 0), (2, 1), (3, 1), (4, 2), (5, 2), (6, 3)):
            seen = []
            try:
                for run in runs(WALK, {"n": 3}, most=most):
                    seen.append(run.numbers)
                self.assertEqual(most, 6)
            except TooMany as error:
                self.assertEqual(error.most, most)
            self.assertEqual(len(seen), wanted)
        asked = []
        with self.assertRaises(TooMany):
            play(WALK, {"n": 3}, lambda *told: asked.append(told), lambda *told: 0, most=5)
        self.assertEqual(len(asked), 2)

    def test_sizes(self):
        nest = Nest(("n", "m"), (("m", "n", -1),), {}, (), WALK.body)
        wrong = [{}, {"n": 3}, {"n": 3, "m": 2, "k": 1}, {"n": 3, "k": 2}, {"n": -1, "m": -2}, {"n": 1000001, "m": 0},
                 {"n": 3, "m": 3}, {"n": True, "m": 0}, {"n": "3", "m": 0}, {"n": 3, "m": None}, {"n": 3, 4: 2}, None,
                 [("n", 3), ("m", 2)]]
        for sizes in wrong:
            for call in (count_steps, trace, endings, lambda *told, **more: list(runs(*told, **more)),
                         lambda *told, **more: play(*told, None, None, **more)):
                with self.assertRaises(BadSizes):
                    call(nest, sizes, most=0)
        runs(nest, {})
        self.assertEqual(count_steps(nest, {"m": 0, "n": 1}), 2)
        self.assertEqual(count_steps(WALK, {"n": 1000000}, most=2000000), 2000000)

    def test_arguments(self):
        for call in (lambda: trace(nest=WALK, sizes={"n": 1}), lambda: trace(WALK, {"n": 1}, 5),
                     lambda: play(WALK, {"n": 1}, meaning=None, first=None)):
            with self.assertRaises(TypeError):
                call()
        sizes = {"n": 2}
        list(runs(WALK, sizes))
        self.assertEqual(sizes, {"n": 2})


class Meant:
    def __init__(self):
        self.asked = []

    def __call__(self, label, numbers, values):
        self.asked.append((label, numbers, list(values)))
        values.append("changed")
        return len(self.asked) * 10


class PlayTest(unittest.TestCase):
    def test_play(self):
        body = (("loop", "i", (ZERO,), (("n", 0),), True, (
            ("run", "f", (("i", 0),), ("a", (("i", 0),)), (("a", (("i", 1),)), ("b", ()), ("a", (("i", 1),)))),
            ("run", "g", (("i", 5),), ("b", ()), (("a", (("i", 0),)), ("c", (("i", 0),)))))),)
        meant, firsts = Meant(), []

        def first(array, numbers):
            firsts.append((array, numbers))
            return -len(firsts)
        found = play(Nest(("n",), (), {}, (), body), {"n": 1}, meant, first)
        self.assertIsInstance(found, Play)
        self.assertEqual(firsts, [("a", (2,)), ("b", ()), ("a", (2,)), ("c", (1,)), ("c", (0,))])
        self.assertEqual(meant.asked, [("f", (1,), [-1, -2, -3]), ("g", (6,), [10, -4]), ("f", (0,), [10, 20, 10]),
                                       ("g", (5,), [30, -5])])
        self.assertEqual(found.log, [(("f", (1,)), 10), (("g", (6,)), 20), (("f", (0,)), 30), (("g", (5,)), 40)])
        self.assertEqual(list(found.cells.items()), [(("a", (0,)), 30), (("a", (1,)), 10), (("b", ()), 40)])

    def test_names_tell_the_trace(self):
        rng = random.Random(2)
        for _ in range(40):
            nest = Nest(("n", "m"), (), {}, (), random_body(rng, ["n", "m"], 3))
            sizes = {"n": rng.randint(0, 4), "m": rng.randint(0, 4)}
            named = lambda label, numbers, values: ("run", label, numbers)
            told = []

            def meaning(label, numbers, values):
                told.append(((label, numbers), tuple(values)))
                return named(label, numbers, values)
            found = play(nest, sizes, meaning, lambda array, numbers: ("first", array, numbers), most=10 ** 5)
            self.assertEqual(told, trace(nest, sizes, most=10 ** 5))
            self.assertEqual(found.cells, {cell: ("run", *name) for cell, name in endings(nest, sizes, most=10 ** 5).items()})


class ExampleTest(unittest.TestCase):
    def test_the_nest_of_the_examples(self):
        with self.assertRaises(BadNest):
            Nest(("n",), (), {}, ("a",), (WALK.body[0][:5],))
        self.assertEqual(trace(WALK, {"n": 0}), [])


if __name__ == "__main__":
    unittest.main()
