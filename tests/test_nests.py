"""[13]: nests, their statements, bounds and nodes."""

import unittest

from loopsheds.faults import BadNest, NoNode, NoPlace
from loopsheds.nests import Nest, bounds, node_at, statements

LONG = "abcdefghij_9"
ATOM = ("n", 0)
ZERO = ("0", 0)
RUN = ("run", "f", (), ("a", ()), ())
LETTERS = "abcdefghijklm"


def loop(counter, *body, lows=(("0", 0),), highs=(("n", 0),), down=False):
    return ("loop", counter, lows, highs, down, body)


def test(differences, *body):
    return ("test", differences, body)


def nest_of(*body, sizes=("n", "m"), given=(), rooms=None, kept=()):
    return Nest(sizes, given, {} if rooms is None else rooms, kept, body)


def run(label="f", stamp=(), target=("a", ()), reads=()):
    return ("run", label, stamp, target, reads)


def deep(many, kind):
    """A statement with so many nodes around it."""
    node = RUN
    for at in range(many):
        node = loop(f"c{at}", node) if kind == "loop" else test((("0", "n", at),), node)
    return node


class NestTest(unittest.TestCase):
    def good(self, *body, **parts):
        return nest_of(*body, **parts)

    def bad(self, *body, **parts):
        with self.assertRaises(BadNest):
            nest_of(*body, **parts)

    def test_attributes(self):
        rooms = {"t": (), "a": ((ZERO, ("n", -1)),)}
        body = (loop("i", run("g", (("i", 0),), ("a", (("i", 0),)), (("t", ()), ("b", (ZERO, ZERO))))), run("f", (), ("t", ())))
        given = (("m", "n", 3),)
        nest = Nest(("n", "m"), given, rooms, ("a", "z"), body)
        self.assertEqual((nest.sizes, nest.given, nest.kept, nest.body), (("n", "m"), given, ("a", "z"), body))
        self.assertEqual(nest.rooms, rooms)
        self.assertEqual(nest.labels, ["f", "g"])
        self.assertEqual(list(nest.arrays.items()), [("a", 1), ("b", 2), ("t", 0)])
        rooms.clear(), nest.rooms.clear(), nest.labels.clear(), nest.arrays.clear()
        self.assertEqual((len(nest.rooms), len(nest.labels), len(nest.arrays)), (2, 2, 3))

    def test_empty(self):
        nest = Nest(("n",), (), {}, (), ())
        self.assertEqual((nest.labels, nest.arrays, nest.rooms, statements(nest)), ([], {}, {}, []))

    def test_names(self):
        for name in ("a", LONG, "z_", "b2", "loop", "run", "test", "sized", "keeps"):
            nest_of(run(name, (), (name, ()), ((name, ()),)), sizes=(name,), rooms={name: ()}, kept=(name,))
            nest_of(("loop", name, (ZERO,), (ATOM,), False, (run(),)), sizes=("n",) if name != "n" else ("m",))
        wrong = ["", "A", "0", "1a", "_a", "a-b", "a b", LONG + "x", "\u00e4", 3, None, True, ("a",), ["a"]]
        wrong += "sizes given room keep up down from to when and".split()
        for name in wrong:
            self.bad(sizes=(name,))
            self.bad(sizes=("n", name))
            self.bad(kept=(name,))
            self.bad(run(name))
            self.bad(run(target=(name, ())))
            self.bad(run(reads=((name, ()),)))
            self.bad(loop(name, RUN))
            if not isinstance(name, list):
                self.bad(rooms={name: ()})

    def test_sizes(self):
        for sizes in (("n",), ("n", "m"), ("n", "m", "k")):
            self.assertEqual(nest_of(sizes=sizes).sizes, sizes)
        for sizes in ((), ("n", "m", "k", "l"), ("n", "n"), ["n"], "n", None, {"n": 1}):
            self.bad(sizes=sizes)

    def test_given(self):
        entry = ("n", "m", 3)
        self.good(given=(entry,) * 12)
        self.good(given=(("0", "n", 9999), ("n", "0", -9999)))
        for given in ((entry,) * 13, [entry], (list(entry),), (("n", "n", 0),), (("n", "x", 0),), (("n", "m", True),),
                      (("n", "m", 10000),), (("n", "m", -10000),), (("n", "m"),), (("n", "m", "1"),), (("n", "", 1),),
                      (("n", "m", 1, 1),), None, (("0", "0", 1),), (3,), ((["n"], "m", 1),)):
            self.bad(given=given)

    def test_rooms(self):
        pair = (("0", -9999), ("n", 9999))
        for pairs in ((), (pair,), (pair,) * 4, ((ZERO, ZERO), (ATOM, ATOM))):
            self.assertEqual(nest_of(rooms={"a": pairs}).rooms, {"a": pairs})
        self.good(run(target=("a", (ZERO,))), rooms={"a": (pair,)})
        self.bad(run(target=("a", (ZERO,))), rooms={"a": (pair, pair)})
        self.bad(loop("i", RUN), rooms={"b": ((ZERO, ("i", 0)),)})
        for pairs in ((pair,) * 5, [pair], (list(pair),), ((ZERO,),), ((ZERO, ZERO, ZERO),), ((ZERO, ("x", 0)),),
                      ((ZERO, ("n", 10000)),), ((ZERO, ("n", True)),), ((ZERO, ["n", 1]),), (3,), None):
            self.bad(rooms={"a": pairs})
        for rooms in ((), [("a", ())], 3):
            self.bad(rooms=rooms)

    def test_kept(self):
        self.good(kept=tuple(LETTERS))
        for kept in (("a", "a"), ["a"], "a", None):
            self.bad(kept=kept)

    def test_nodes(self):
        for node in (3, None, (), ("stop",), ("stop", *RUN[1:]), (3,), list(RUN), ("run",), (("run",),), RUN + ((),), RUN[:4]):
            self.bad(node)
            self.bad(loop("i", node))
        with self.assertRaises(BadNest):
            Nest(("n",), (), {}, (), [RUN])
        for body in ((), [RUN], None, RUN):
            self.bad(("loop", "i", (ZERO,), (ATOM,), False, body))
            self.bad(("test", (("n", "0", 1),), body))

    def test_loops(self):
        row = tuple([("n", at) for at in range(12)])
        self.good(loop("i", RUN, lows=row, highs=row, down=True))
        self.good(loop("i", loop("j", RUN, lows=(("i", 1), ("i", 2)), highs=(("i", 9999), ("m", -9999)))), loop("i", RUN))
        for wrong in ((), row + (("n", 12),), (ATOM, ATOM), [ATOM], (["n", 0],), (("i", 0),), (("x", 0),), (("n",),),
                      (("n", 0, 0),), (("n", True),), (("n", 10000),), (("n", -10000),), (("n", "0"),), ((3, 0),), None):
            self.bad(loop("i", RUN, lows=wrong))
            self.bad(loop("i", RUN, highs=wrong))
        for down in (0, 1, None, "down"):
            self.bad(loop("i", RUN, down=down))
        for counter in ("n", "m", "i"):
            self.bad(loop("i", loop(counter, RUN)))
        self.bad(loop("i", RUN)[:5])
        self.bad(loop("i", RUN) + ((),))
        self.bad(loop("i", RUN), loop("j", RUN, lows=(("i", 0),)))

    def test_tests(self):
        row = tuple([("n", "m", at) for at in range(12)])
        self.good(test(row, RUN), loop("i", test((("i", "n", -1), ("0", "i", 0)), RUN)))
        for wrong in ((), row + (("n", "m", 12),), (row[0], row[0]), [row[0]], (list(row[0]),), (("i", "n", 0),),
                      (("n", "n", 0),), (("n", "m", 10000),), (("n", "m", False),), (("n", "m"),), None, (ATOM,)):
            self.bad(test(wrong, RUN))
        self.bad(test(row, RUN) + (3,))
        self.bad(("test", row))

    def test_statements_of_a_nest(self):
        index = (("i", 9999), ("0", -9999), ATOM, ("m", 0))
        node = run("f", index * 2, ("a", index), (("a", index),) * 6)
        self.good(loop("i", node))
        self.bad(node)
        for stamp in (index * 2 + (ZERO,), [ZERO], (["0", 0],), (("x", 0),), (("n", 10000),), (("n", True),), None):
            self.bad(loop("i", run(stamp=stamp)))
        for access in (("a", index + (ZERO,)), ["a", ()], ("a", [ZERO]), ("a",), ("a", (), ()), ("a", (("x", 0),)), None,
                       ("a", (("n", 10000),)), ("a", None)):
            self.bad(run(target=access))
            self.bad(run(reads=(access,)))
        for reads in ((("a", ()),) * 7, [("a", ())], None, ("a", ())):
            self.bad(run(reads=reads))

    def test_one_number_everywhere(self):
        self.bad(run(target=("a", ())), run(target=("a", (ZERO,))))
        self.bad(run(target=("a", ()), reads=(("b", ()), ("a", (ZERO,)))))
        self.bad(run(stamp=()), run(stamp=(ZERO,)))
        self.bad(run(reads=()), loop("i", run(reads=(("a", ()),))))
        self.good(run("f"), run("f", (), ("b", (ZERO,)), ()), run("g", (ZERO,)))

    def test_depth(self):
        for kind in ("loop", "test"):
            self.good(deep(39, kind))
            self.bad(deep(40, kind))
            self.bad(deep(300, kind))

    def test_supposing(self):
        nest = nest_of(loop("i", RUN), given=(("n", "m", 1),), rooms={"t": ()}, kept=("a",))
        late = nest.supposing(("m", "n", 2), ("0", "n", -1))
        self.assertEqual(late.given, (("n", "m", 1), ("m", "n", 2), ("0", "n", -1)))
        self.assertEqual((late.sizes, late.rooms, late.kept, late.body), (nest.sizes, {"t": ()}, ("a",), nest.body))
        self.assertEqual(len(nest.supposing(*[("m", "n", 2)] * 11).given), 12)
        for more in ([("m", "n", 2)] * 12, [["m", "n", 2]], [("m", "x", 2)], [("m", "n", 10000)]):
            with self.assertRaises(BadNest):
                nest.supposing(*more)
        self.assertEqual(nest.given, (("n", "m", 1),))


INNER = run("g", (("i", 0), ("j", 1)), ("b", (("j", 0),)), (("a", ()),))
TESTED = test((("i", "n", -1), ("0", "j", 3)), run("f", (("0", 1),)), INNER)
BODY = (RUN[:1] + ("h",) + RUN[2:],
        loop("i", loop("j", TESTED, lows=(("i", 2), ("0", -1)), highs=(("m", -3),), down=True), run("k")),
        run("l"))


class StatementsTest(unittest.TestCase):
    def setUp(self):
        self.nest = nest_of(*BODY, given=(("n", "m", 5),))

    def test_statements(self):
        found = statements(self.nest)
        self.assertEqual([one.label for one in found], ["h", "f", "g", "k", "l"])
        self.assertEqual([one.path for one in found], [(0,), (1, 0, 0, 0), (1, 0, 0, 1), (1, 1), (2,)])
        one = found[2]
        self.assertEqual((one.stamp, one.target, one.reads), INNER[2:])
        self.assertEqual(one.counters, ("i", "j"))
        self.assertEqual(one.loops, [("i", (ZERO,), (ATOM,), False), ("j", (("i", 2), ("0", -1)), (("m", -3),), True)])
        self.assertEqual(one.tests, [("i", "n", -1), ("0", "j", 3)])
        self.assertEqual((found[0].counters, found[0].loops, found[0].tests), ((), [], []))
        statements(self.nest)[2].tests.clear()
        self.assertEqual(len(statements(self.nest)[2].tests), 2)

    def test_bounds(self):
        last = [("n", "m", 5), ("0", "n", 0), ("0", "m", 0)]
        outer = [("0", "i", 0), ("i", "n", 0)]
        inner = [("i", "j", -2), ("0", "j", 1), ("j", "m", -3), ("i", "n", -1), ("0", "j", 3)]
        self.assertEqual(bounds(self.nest, 2), outer + inner + last)
        self.assertEqual(bounds(self.nest, 3), outer + last)
        self.assertEqual(bounds(self.nest, 0), last)
        for place in (-1, 5, True, "0", None, 1.0, (0,)):
            with self.assertRaises(NoPlace):
                bounds(self.nest, place)

    def test_node_at(self):
        self.assertEqual(node_at(self.nest, (0,)), BODY[0])
        self.assertEqual(node_at(self.nest, (1, 0, 0)), TESTED)
        for one in statements(self.nest):
            self.assertEqual(node_at(self.nest, one.path)[1], one.label)
        for path in ((), (3,), (-1,), (0, 0), (1, 2), (True,), [0], 0, None, ("0",), (1, 0, 0, 1, 0), (1, None)):
            with self.assertRaises(NoNode) as caught:
                node_at(self.nest, path)
            self.assertEqual(caught.exception.path, path)


if __name__ == "__main__":
    unittest.main()
