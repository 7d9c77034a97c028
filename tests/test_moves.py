"""[20]: moves."""

import random
import unittest

from loopsheds.agreeing import where_agree
from loopsheds.faults import BadMove, Doubled, NoMove, NoNode, TooLarge
from loopsheds.moves import followed, keeps_all, moved, where_kept
from loopsheds.nests import Nest
from loopsheds.reading import read_nest
from loopsheds.writing import write_nest
from tests.nesting import Maker, failing, paths_of, small_sizes

HEAD = 'sizes n, m\nkeep a\n'
WALK = read_nest('sizes n\nkeep a\nup i from 1 to n\n  f(i): a[i] = a[i - 1]\n')
KINDS = {"swap": (), "reverse": (), "shift": (2,), "split": (("n", 1),), "join": (), "part": (1,), "fuse": (),
         "interchange": (), "lift": (), "sink": (), "rename": ("x",), "expand": ("t",)}
SAFE = ("shift", "split", "lift", "sink", "rename")


def after(body, *moves, head=HEAD):
    """The body's text after moves."""
    text = write_nest(followed(read_nest(head + body), *moves))
    return text[len(head):] if text.startswith(head) else text


class MovesTest(unittest.TestCase):
    def test_example(self):
        verdict = keeps_all(WALK, ('reverse', (0,)))
        self.assertEqual(
            [verdict.is_same, verdict.sizes, verdict.kind, where_kept(WALK, ('reverse', (0,))).spread('n'),
             moved(WALK, ('shift', (0,), 2)).body[0][5]],
            [False, {'n': 2}, 'reads', [(0, 1)],
             (('run', 'f', (('i', -2),), ('a', (('i', -2),)), (('a', (('i', -3),)),)),)])

    def test_swap(self):
        body = 'f(): a[0] =\nwhen n <= 1\n  g(): a[1] =\n  h(): a[2] =\nk(): a[3] =\n'
        self.assertEqual(after(body, ("swap", (0,))), 'when n <= 1\n  g(): a[1] =\n  h(): a[2] =\nf(): a[0] =\nk(): a[3] =\n')
        self.assertEqual(after(body, ("swap", (1, 0))), 'f(): a[0] =\nwhen n <= 1\n  h(): a[2] =\n  g(): a[1] =\nk(): a[3] =\n')
        self.assertEqual(after(body, ("swap", (1,)), ("swap", (0,))),
                         'k(): a[3] =\nf(): a[0] =\nwhen n <= 1\n  g(): a[1] =\n  h(): a[2] =\n')

    def test_reverse(self):
        body = 'up i from 1 to n\n  down j from i, 0 to m\n    f(i, j): a[j] = a[i]\n'
        self.assertEqual(after(body, ("reverse", (0,))), body.replace("up", "down"))
        self.assertEqual(after(body, ("reverse", (0, 0))), body.replace("down", "up"))
        self.assertEqual(after(body, ("reverse", (0,)), ("reverse", (0,))), body)

    def test_shift(self):
        body = ('up i from 1, m - 2 to n, 4\n  up j from i + 1, 0 to i, n\n    when i <= j + 1 and j <= i and i <= 3 and 2 <= i\n'
                '      f(i, j, n): a[i - 1] = a[j], a[i + 5]\n')
        late = ('up i from 4, m + 1 to n + 3, 7\n  up j from i - 2, 0 to i - 3, n\n'
                '    when i <= j + 4 and j <= i - 3 and i <= 6 and 0 <= i - 5\n'
                '      f(i - 3, j, n): a[i - 4] = a[j], a[i + 2]\n')
        self.assertEqual(after(body, ("shift", (0,), 3)), late)
        self.assertEqual(after(body.replace("2 <= i", "0 <= i - 2"), ("shift", (0,), 3), ("shift", (0,), -3)),
                         body.replace("2 <= i", "0 <= i - 2"))
        self.assertEqual(after(body.replace("2 <= i", "0 <= i - 2"), ("shift", (0,), 0)), body.replace("2 <= i", "0 <= i - 2"))
        self.assertEqual(after(body, ("shift", (0, 0), -1)).splitlines()[1:], [
            '  up j from i, -1 to i - 1, n - 1', '    when i <= j + 2 and j <= i - 1 and i <= 3 and 0 <= i - 2',
            '      f(i, j + 1, n): a[i - 1] = a[j + 1], a[i + 5]'])

    def test_split(self):
        body = 'up i from 1 to n\n  f(i): a[i] = a[i - 1]\n'
        self.assertEqual(after(body, ("split", (0,), ("m", -2))),
                         'up i from 1 to n, m - 2\n  f(i): a[i] = a[i - 1]\nup i from 1, m - 1 to n\n  f(i): a[i] = a[i - 1]\n')
        self.assertEqual(after(body.replace("up", "down"), ("split", (0,), ("0", 5))),
                         'down i from 1, 6 to n\n  f(i): a[i] = a[i - 1]\ndown i from 1 to n, 5\n  f(i): a[i] = a[i - 1]\n')
        self.assertEqual(after(body, ("split", (0,), ("n", 0))),
                         'up i from 1 to n\n  f(i): a[i] = a[i - 1]\nup i from 1, n + 1 to n\n  f(i): a[i] = a[i - 1]\n')
        self.assertEqual(after(body, ("split", (0,), ("0", 0))),
                         'up i from 1 to n, 0\n  f(i): a[i] = a[i - 1]\nup i from 1 to n\n  f(i): a[i] = a[i - 1]\n')
        deep = 'up k from 0 to n\n  g(k): t[] =\n  up i from 1 to n\n    f(k, i): a[i] =\n  h(k): t[] =\n'
        self.assertEqual(after(deep, ("split", (0, 1), ("k", 1))),
                         'up k from 0 to n\n  g(k): t[] =\n  up i from 1 to n, k + 1\n    f(k, i): a[i] =\n'
                         '  up i from 1, k + 2 to n\n    f(k, i): a[i] =\n  h(k): t[] =\n')

    def test_join(self):
        body = 'up i from 1 to n, 5\n  f(i): a[i] =\nup i from 6, m to n, m\n  f(i): a[i] =\n'
        self.assertEqual(after(body, ("join", (0,))), 'up i from 1 to n, m\n  f(i): a[i] =\n')
        self.assertEqual(after(body.replace("up", "down"), ("join", (0,))), 'down i from 6, m to n, 5\n  f(i): a[i] =\n')
        for word in ("up", "down"):
            late = body.replace("up", word) + "g(): t[] =\nh(): t[] =\n"
            self.assertEqual(after(late, ("join", (0,))).splitlines()[1:], ["  f(i): a[i] =", "g(): t[] =", "h(): t[] ="])

    def test_part(self):
        body = 'down i from 1 to n\n  f(i): a[i] =\n  when i <= 3\n    g(i): t[] =\n  h(i): a[i] =\n'
        self.assertEqual(after(body, ("part", (0,), 1)),
                         'down i from 1 to n\n  f(i): a[i] =\ndown i from 1 to n\n  when i <= 3\n    g(i): t[] =\n  h(i): a[i] =\n')
        self.assertEqual(after(body, ("part", (0,), 2)),
                         'down i from 1 to n\n  f(i): a[i] =\n  when i <= 3\n    g(i): t[] =\ndown i from 1 to n\n  h(i): a[i] =\n')

    def test_fuse(self):
        body = ('up i from 1, m to n, 5\n  f(i): a[i] =\nup j from m, 1 to 5, n\n'
                '  up k from j - 1 to j\n    when j <= k and k <= j + 2\n      g(j + 1, k): a[j] = a[k]\n  h(j): t[] =\n')
        self.assertEqual(after(body, ("fuse", (0,))),
                         'up i from 1, m to n, 5\n  f(i): a[i] =\n  up k from i - 1 to i\n    when i <= k and k <= i + 2\n'
                         '      g(i + 1, k): a[i] = a[k]\n  h(i): t[] =\n')
        same = 'down i from 1 to n\n  f(i): a[i] =\ndown i from 1 to n\n  g(i): a[i] =\n'
        self.assertEqual(after(same, ("fuse", (0,))), 'down i from 1 to n\n  f(i): a[i] =\n  g(i): a[i] =\n')
        again = 'up i from 1 to n\n  up j from 0 to 1\n    f(i, j): a[i] =\nup j from 1 to n\n  up k from 0 to 1\n    g(j, k): a[j] =\n'
        self.assertEqual(after(again, ("fuse", (0,))),
                         'up i from 1 to n\n  up j from 0 to 1\n    f(i, j): a[i] =\n  up k from 0 to 1\n    g(i, k): a[i] =\n')

    def test_interchange(self):
        body = 'up i from 1, m to n\n  down j from 0 to m\n    f(i, j): a[j] = a[i]\n'
        self.assertEqual(after(body, ("interchange", (0,))),
                         'down j from 0 to m\n  up i from 1, m to n\n    f(i, j): a[j] = a[i]\n')
        body = 'up i from 1, m to n, 7\n  up j from i - 2, 0, i to i + 3, m\n    f(i, j): a[j] = a[i]\n'
        self.assertEqual(after(body, ("interchange", (0,))),
                         'up j from -1, m - 2, 0, 1, m to n + 3, 10, m\n  up i from 1, m, j - 3 to n, 7, j + 2, j\n'
                         '    f(i, j): a[j] = a[i]\n')
        body = 'up i from 1, 3 to n, n + 2\n  up j from i - 2, 1, i to i - 2, i\n    f(i, j): a[j] = a[i]\n'
        self.assertEqual(after(body, ("interchange", (0,))),
                         'up j from -1, 1, 3 to n - 2, n, n + 2\n  up i from 1, 3, j + 2, j to n, n + 2, j + 2, j\n'
                         '    f(i, j): a[j] = a[i]\n')
        three = 'up i from 0 to n\n  up j from 0 to i\n    up k from j to i\n      f(i, j, k): a[k] =\n'
        self.assertEqual(after(three, ("interchange", (0, 0))),
                         'up i from 0 to n\n  up k from 0 to i\n    up j from 0 to i, k\n      f(i, j, k): a[k] =\n')

    def test_lift_and_sink(self):
        body = 'up i from 1 to n\n  when m <= 3 and n <= m\n    f(i): a[i] =\n    g(i): a[i] =\n'
        late = 'when m <= 3 and n <= m\n  up i from 1 to n\n    f(i): a[i] =\n    g(i): a[i] =\n'
        self.assertEqual(after(body, ("lift", (0,))), late)
        self.assertEqual(after(late, ("sink", (0,))), body)
        self.assertEqual(after(body, ("lift", (0,)), ("sink", (0,))), body)

    def test_rename(self):
        body = 'up i from 1 to n\n  up j from i to i + 1\n    when j <= i and i <= m\n      f(i, j): a[i] = a[j]\n'
        self.assertEqual(after(body, ("rename", (0,), "a")),
                         'up a from 1 to n\n  up j from a to a + 1\n    when j <= a and a <= m\n      f(a, j): a[a] = a[j]\n')
        self.assertEqual(after(body, ("rename", (0, 0), "f")),
                         'up i from 1 to n\n  up f from i to i + 1\n    when f <= i and i <= m\n      f(i, f): a[i] = a[f]\n')

    def test_expand_and_contract(self):
        body = 'up i from 1 to n\n  f(i): t[] = a[i]\n  g(i): a[i] = t[], t[]\n'
        late = 'up i from 1 to n\n  f(i): t[i] = a[i]\n  g(i): a[i] = t[i], t[i]\n'
        self.assertEqual(after(body, ("expand", (0,), "t")), late)
        self.assertEqual(after(late, ("contract", "t", 0)), body)
        three = 'up i from 1 to n\n  f(i): t[i, 0, n] = t[0, 0, 0]\ng(): u[] =\nh(): u[] =\n'
        self.assertEqual(after(three, ("expand", (0,), "t")),
                         'up i from 1 to n\n  f(i): t[i, 0, n, i] = t[0, 0, 0, i]\ng(): u[] =\nh(): u[] =\n')
        roomy = 'sizes n, m\nroom t[0 .. n, 1 .. 2]\nroom z[]\nkeep a\n'
        wide = 'up i from 1 to n\n  f(i): t[i, 3] =\n'
        self.assertEqual(after(wide, ("expand", (0,), "t"), head=roomy),
                         'sizes n, m\nroom z[]\nkeep a\nup i from 1 to n\n  f(i): t[i, 3, i] =\n')
        self.assertEqual(after(wide, ("contract", "t", 0), head=roomy),
                         'sizes n, m\nroom t[1 .. 2]\nroom z[]\nkeep a\nup i from 1 to n\n  f(i): t[3] =\n')
        self.assertEqual(after(wide, ("contract", "t", 1), ("contract", "t", 0), head=roomy),
                         'sizes n, m\nroom t[]\nroom z[]\nkeep a\nup i from 1 to n\n  f(i): t[] =\n')

    def test_no_moves(self):
        nest = read_nest(HEAD + '''f(): t[] =
up i from 1 to n
  g(i): t[] = u[i]
up i from 1 to n
  when i <= 3
    h(i): a[i] = u[i]
up j from 1, m to n
  up i from 0 to n
    k(j, i): b[0, 0, 0, 0] = c[1]
    l(j, i): b[0, 0, 0, 0] = v[], c[2]
when n <= 3
  up x from 0 to n
    p(x): w[x] =
  q(): w[0] =
''' + 'up i from 1 to n\n  up y from 1 to n\n    r(i, y): w[0] =\nup y from 1 to n\n  up i from 1 to n\n    s(i, y): w[0] =\n')
        for move in (
                ("swap", (6,)), ("swap", (1, 0)), ("reverse", (0,)), ("reverse", (4,)), ("shift", (0,), 1),
                ("shift", (1,), 10000), ("shift", (1,), -10000), ("shift", (1,), True), ("shift", (1,), "1"),
                ("shift", (1,), None), ("split", (0,), ("n", 0)), ("split", (1,), ("i", 0)), ("split", (1,), ("z", 0)),
                ("split", (1,), ["n", 0]), ("split", (1,), ("n", 10000)), ("split", (1,), ("n",)), ("split", (1,), 3),
                ("split", (1,), ("n", True)), ("split", (3, 0), ("i", 0)), ("split", (1,), (3, 3)),
                ("join", (0,)), ("join", (1,)), ("join", (6,)), ("join", (4,)), ("join", (4, 0)), ("part", (1,), 1), ("part", (3, 0), 0),
                ("part", (3, 0), 2), ("part", (3, 0), True), ("part", (3, 0), "1"), ("part", (4,), 1), ("part", (0,), 1),
                ("fuse", (0,)), ("fuse", (2,)), ("fuse", (3,)), ("fuse", (5,)), ("fuse", (6,)), ("fuse", (4,)),
                ("interchange", (1,)), ("interchange", (2,)), ("interchange", (4,)), ("interchange", (0,)),
                ("interchange", (3, 0)), ("lift", (2,)), ("lift", (1,)), ("lift", (4,)), ("lift", (0,)), ("sink", (2, 0)),
                ("sink", (4,)), ("sink", (1,)), ("sink", (0,)), ("rename", (0,), "z"), ("rename", (1,), "i"),
                ("rename", (1,), "n"), ("rename", (3,), "i"), ("rename", (3, 0), "j"), ("rename", (1,), "from"),
                ("rename", (1,), "X"), ("rename", (1,), ""), ("rename", (1,), 3), ("rename", (1,), "abcdefghijklm"),
                ("rename", (4,), "z"), ("expand", (0,), "t"), ("expand", (1,), "t"), ("expand", (1,), "u"),
                ("expand", (2,), "a"), ("expand", (3,), "b"), ("expand", (1,), "zz"), ("expand", (1,), None),
                ("expand", (1,), 3), ("expand", (4,), "w"), ("contract", "a", 0), ("contract", "t", 0),
                ("contract", "b", 4), ("contract", "b", -1), ("contract", "b", True), ("contract", "zz", 0),
                ("contract", None, 0), ("contract", "u", "0")):
            for call in (moved, where_kept, keeps_all, followed):
                with self.assertRaises(NoMove, msg=move) as caught:
                    call(nest, move)
                self.assertEqual(caught.exception.kind, move[0])
        for move in (("fuse", (1,)), ("split", (3, 0), ("j", 0)), ("split", (3,), ("m", 9998)), ("rename", (1,), "a"),
                     ("expand", (3,), "c"), ("expand", (3, 0), "v"), ("contract", "b", 3), ("shift", (1,), -9990)):
            moved(nest, move)

    def test_counters_further_in(self):
        nest = read_nest(HEAD + 'up i from 0 to n\n  when i <= 3\n    up j from 0 to i\n      up k from 0 to 0\n'
                         '        f(i, j): a[i] =\n')
        for name in ("j", "k"):
            with self.assertRaises(NoMove):
                moved(nest, ("rename", (0,), name))
        two = read_nest(HEAD + 'up i from 0 to n\n  f(i): a[i] =\nup j from 0 to n\n  when j <= 3\n    up i from 0 to 0\n'
                        '      g(i, j): a[i] =\n')
        with self.assertRaises(NoMove):
            moved(two, ("fuse", (0,)))

    def test_a_room_alone_is_no_access(self):
        nest = read_nest('sizes n\nroom z[0 .. n]\nup i from 0 to n\n  f(i): a[i] =\n')
        for move in (("contract", "z", 0), ("expand", (0,), "z")):
            with self.assertRaises(NoMove):
                moved(nest, move)

    def test_bad_moves(self):
        for move in (None, 3, "swap", [], (), ["swap", (0,)], ("swap",), ("swap", (0,), 1), ("shift", (0,)), ("jump", (0,)),
                     (3, (0,)), (None,), (("swap",), (0,)), ("contract", "a"), ("contract", (0,), "a", 0), ("split", (0,), "n", 0),
                     ("rename", (0,)), ([], (0,)), ("expand", (0,)), ("part", (0,)), ("lift",), ("sink", (0,), 1)):
            for call in (moved, where_kept, keeps_all, followed):
                with self.assertRaises(BadMove, msg=move):
                    call(WALK, move)

    def test_no_nodes(self):
        for path in ((), (1,), (-1,), (0, 1), (0, 0, 0), [0], 0, None, "0", (True,), (0, None)):
            for kind, more in KINDS.items():
                with self.assertRaises(NoNode) as caught:
                    moved(WALK, (kind, path, *more))
                self.assertEqual(caught.exception.path, path)
            for call in (where_kept, keeps_all, followed):
                with self.assertRaises(NoNode):
                    call(WALK, ("shift", path, "wrong"))

    def test_too_large(self):
        wide = 'up i from ' + ", ".join(f"n + {at}" for at in range(12)) + ' to ' + ", ".join(
            f"m + {at}" for at in range(12)) + '\n'
        for body, move in (
                ('up i from 1 to n\n  f(i): a[i] =\n', ("shift", (0,), 9999)),
                ('up i from 0 to n - 5\n  f(i): a[i] =\n', ("shift", (0,), -9995)),
                ('up i from 0 to n\n  f(i - 5): a[i] =\n', ("shift", (0,), 9999)),
                ('up i from 0 to n\n  f(i): a[i - 5] =\n', ("shift", (0,), 9999)),
                ('up i from 0 to n\n  f(i): a[i] = b[i - 5]\n', ("shift", (0,), 9999)),
                ('up i from 0 to n\n  when i <= 7\n    f(i): a[i] =\n', ("shift", (0,), 9999)),
                ('up i from 0 to n\n  up j from i - 1 to i\n    f(i, j): a[i] =\n', ("shift", (0,), 9999)),
                ('up i from 0 to n\n  f(i): a[i] =\n', ("split", (0,), ("m", 9999))),
                (wide + '  f(i): a[i] =\n', ("split", (0,), ("0", 3))), (wide + '  f(i): a[i] =\n', ("split", (0,), ("m", 11))),
                (wide + '  up j from i, i + 50 to n\n    f(i, j): a[j] =\n', ("interchange", (0,))),
                (wide + '  up j from 0 to i\n    f(i, j): a[j] =\n', ("interchange", (0,))),
                ('up i from 9000 to n\n  up j from i + 1000 to n\n    f(i, j): a[j] =\n', ("interchange", (0,)))):
            nest = read_nest(HEAD + body)
            for call in (moved, where_kept, keeps_all, followed):
                with self.assertRaises(TooLarge, msg=(body, move)):
                    call(nest, move)
        self.assertEqual(len(moved(read_nest(HEAD + wide + '  f(i): a[i] =\n'), ("shift", (0,), -5)).body), 1)

    def test_doubled(self):
        nest = read_nest('sizes n\nup i from 0 to n\n  f(): t[] =\n')
        joined = read_nest('sizes n\nup i from 0 to 0\n  f(): t[] =\nup i from 9 to 8\n  f(): t[] =\n')
        for call in (where_kept, keeps_all):
            for one, move in ((nest, ("reverse", (0,))), (joined, ("join", (0,)))):
                with self.assertRaises(Doubled) as caught:
                    call(one, move)
                self.assertEqual(caught.exception.label, "f")
            with self.assertRaises(NoMove):
                call(nest, ("swap", (0,)))
        self.assertEqual(moved(nest, ("reverse", (0,))).body[0][4], True)

    def test_followed(self):
        self.assertEqual(followed(WALK).body, WALK.body)
        late = followed(WALK, ("shift", (0,), 1), ("reverse", (0,)), ("rename", (0,), "j"))
        self.assertEqual(write_nest(late), 'sizes n\nkeep a\ndown j from 2 to n + 1\n  f(j - 1): a[j - 1] = a[j - 2]\n')
        with self.assertRaises(NoMove) as caught:
            followed(WALK, ("shift", (0,), 1), ("swap", (0,)), ("jump",))
        self.assertEqual(caught.exception.kind, "swap")
        with self.assertRaises(BadMove):
            followed(WALK, ("jump",), ("swap", (0,)))
        self.assertEqual(WALK.body[0][4], False)

    def test_deep(self):
        body = "".join("  " * at + f"up c{at} from 0 to n\n" for at in range(38)) + "  " * 38 + "f(c36): a[c36] = a[c37]\n"
        nest = read_nest("sizes n\nkeep a\n" + body)
        path = (0,) * 37
        self.assertEqual(write_nest(moved(nest, ("interchange", path))).splitlines()[-3:], [
            "  " * 36 + "up c37 from 0 to n", "  " * 37 + "up c36 from 0 to n", "  " * 38 + "f(c36): a[c36] = a[c37]"])
        self.assertEqual(write_nest(moved(nest, ("split", (0,) * 38, ("c35", 1)))).splitlines()[-2:], [
            "  " * 37 + "up c37 from 0, c35 + 2 to n", "  " * 38 + "f(c36): a[c36] = a[c37]"])
        single = read_nest("sizes n\nkeep a\n" + body.replace("to n", "to 0").replace("c36 from 0 to 0", "c36 from 0 to n"))
        self.assertTrue(keeps_all(single, ("interchange", path)))
        self.assertEqual(keeps_all(single, ("reverse", path)).sizes, {"n": 1})

    def test_moves_by_chance(self):
        done = {}
        for seed in range(160):
            rng = random.Random(seed)
            nest = Maker(rng).nest(4, 2)
            for _ in range(6):
                late, kinds = self.some_moves(rng, nest)
                for kind in kinds:
                    done[kind] = done.get(kind, 0) + 1
                if kinds:
                    self.check(nest, late, kinds)
        self.assertEqual(sorted(done), sorted([*KINDS, "contract"]))

    def some_moves(self, rng, nest):
        """The nest after some moves, and their kinds."""
        late = nest
        kinds = []
        for _ in range(rng.choice([2, 4, 8])):
            path, _ = rng.choice(paths_of(late))
            kind = rng.choice([*KINDS, "contract"])
            more = KINDS.get(kind, ())
            if kind in ("expand", "contract"):
                array = rng.choice("abt")
                move = (kind, path, array) if kind == "expand" else (kind, array, rng.randint(0, 1))
            else:
                move = (kind, path, *more)
            try:
                late = moved(late, move)
                kinds.append(kind)
            except NoMove:
                continue
        return late, kinds

    def check(self, nest, late, kinds):
        """All runs keep their names; if all moves are safe ones, nothing else changes."""
        self.assertIsInstance(late, Nest)
        for sizes in small_sizes(nest, 3):
            fails = failing(nest, late, sizes)
            if "join" not in kinds:
                self.assertNotIn("runs", fails, kinds)
            if all(kind in SAFE for kind in kinds):
                self.assertEqual(fails, [], kinds)

    def test_safe_moves_are_safe(self):
        for seed in range(80):
            rng = random.Random(seed)
            nest = Maker(rng).nest()
            for kind in SAFE:
                for path, _ in paths_of(nest):
                    try:
                        self.assertTrue(keeps_all(nest, (kind, path, *KINDS[kind])))
                    except NoMove:
                        continue
                    whole = where_agree(nest, nest)
                    self.assertTrue(where_kept(nest, (kind, path, *KINDS[kind])).same(whole))

    def test_where_kept(self):
        for seed in range(100):
            nest = Maker(random.Random(seed)).nest()
            for path, _ in paths_of(nest):
                for kind in ("swap", "reverse", "interchange", "fuse"):
                    try:
                        late = moved(nest, (kind, path))
                    except NoMove:
                        continue
                    region = where_kept(nest, (kind, path))
                    for sizes in small_sizes(nest, 3):
                        self.assertEqual(sizes in region, not failing(nest, late, sizes))

    def test_great_sizes(self):
        nest = read_nest('sizes n\nkeep a\nup i from 0 to n\n  f(i): a[i] = a[i - 7000]\n')
        self.assertEqual(where_kept(nest, ("reverse", (0,))).spread("n"), [(0, 6999)])
        self.assertEqual(keeps_all(nest, ("reverse", (0,))).sizes, {"n": 7000})
        self.assertTrue(keeps_all(nest, ("split", (0,), ("0", 9998))))


if __name__ == "__main__":
    unittest.main()
