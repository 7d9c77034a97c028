"""[14]: texts of nests, read."""

import unittest

from loopsheds.errors import BadText, LoopshedsError
from loopsheds.faults import BadNest
from loopsheds.nests import statements
from loopsheds.reading import read_nest

LONG = """sizes n, m

  # a remark
given n <= m + 3 and 2 < m and n >= 1
given m > n - 2
room a[0 .. n, -1 .. m - 1]
keep a, b
given n == m + 1
room t[]
room a[0 .. 5, 1 .. n]
keep c
up i from 0, m - 2 to n - 1, m
  down j from i to m + 1
# between
    when i<=j and 0 < i and j == m
      f(i,j + 1, -3): a[i+1,2]=b[i],c[]

    g(i, j): t[] =
up k from 1 to 1
  h(): t[] = t[]"""


def told(text):
    """Line and column of the refusal."""
    try:
        read_nest(text)
    except BadText as error:
        return (error.line, error.column)
    except BadNest:
        return "nest"
    return None


class ReadingTest(unittest.TestCase):
    def test_example(self):
        nest = read_nest('sizes n\nkeep a\nup i from 1 to n\n  f(i): a[i] = a[i - 1]\n')
        self.assertEqual([nest.sizes, nest.kept, nest.arrays, nest.body], [
            ('n',), ('a',), {'a': 1}, (('loop', 'i', (('0', 1),), (('n', 0),), False, (
                ('run', 'f', (('i', 0),), ('a', (('i', 0),)), (('a', (('i', -1),)),)),)),)])

    def test_parts(self):
        nest = read_nest(LONG)
        self.assertEqual(nest.sizes, ("n", "m"))
        self.assertEqual(nest.given, (("n", "m", 3), ("0", "m", -3), ("0", "n", -1), ("n", "m", 1), ("n", "m", 1),
                                      ("m", "n", -1)))
        self.assertEqual(nest.rooms, {"a": ((("0", 0), ("0", 5)), (("0", 1), ("n", 0))), "t": ()})
        self.assertEqual(nest.kept, ("a", "b", "c"))
        run = ("run", "f", (("i", 0), ("j", 1), ("0", -3)), ("a", (("i", 1), ("0", 2))),
               (("b", (("i", 0),)), ("c", ())))
        tested = ("test", (("i", "j", 0), ("0", "i", -1), ("j", "m", 0), ("m", "j", 0)), (run,))
        inner = ("loop", "j", (("i", 0),), (("m", 1),), True,
                 (tested, ("run", "g", (("i", 0), ("j", 0)), ("t", ()), ())))
        self.assertEqual(nest.body, (
            ("loop", "i", (("0", 0), ("m", -2)), (("n", -1), ("m", 0)), False, (inner,)),
            ("loop", "k", (("0", 1),), (("0", 1),), False, (("run", "h", (), ("t", ()), (("t", ()),)),))))
        self.assertEqual([row.path for row in statements(nest)], [(0, 0, 0, 0), (0, 0, 1), (1, 0)])

    def test_without_a_body(self):
        for text in ("sizes n", "sizes n\n", "\n \n#x\nsizes n\n\n", "sizes   n   "):
            nest = read_nest(text)
            self.assertEqual((nest.sizes, nest.body, nest.kept, nest.given), (("n",), (), (), ()))

    def test_comparisons(self):
        table = {"n <= m": [("n", "m", 0)], "n + 2 <= m - 1": [("n", "m", -3)], "n < m": [("n", "m", -1)],
                 "n >= m + 2": [("m", "n", -2)], "n > m": [("m", "n", -1)], "3 <= m": [("0", "m", -3)],
                 "m <= -3": [("m", "0", -3)], "n - 1 == 4": [("n", "0", 5), ("0", "n", -5)],
                 "1 > n": [("n", "0", 0)], "- 2 < n": [("0", "n", 1)]}
        for text, found in table.items():
            self.assertEqual(list(read_nest(f"sizes n, m\ngiven {text}\n").given), found, text)

    def test_lines(self):
        head = "sizes n\n"
        for text, where in (
                ("", (1, 1)), ("\n\n", (1, 1)), ("# x\n  #y", (1, 1)), ("size n", (1, 1)), (" sizes n", (1, 2)),
                ("sizes", (1, 6)), ("sizes ", (1, 7)), ("sizes n,", (1, 9)), ("sizes n m", (1, 9)),
                ("sizes n, 2", (1, 10)), ("sizes N", (1, 7)), ("sizes from", (1, 7)), ("sizes abcdefghijklm", (1, 7)),
                ("sizes _a", (1, 7)), ("\n\nsizes n,\n", (3, 9)), ("sizes n # x", (1, 9)), ("sizes n\t", (1, 8)),
                ("\tsizes n", (1, 1)), ("sizes n\r\n", (1, 8)),
                (head + "sizes m", (2, 1)), (head + "given n", (2, 8)), (head + "given n <= 12345", (2, 12)),
                (head + "given n <= 012", (2, 12)),
                (head + "given n <= 01", (2, 12)), (head + "given n <= 00", (2, 12)), (head + "given n <= 10", None), (head + "given n <= 0", None), (head + "given n = 1", (2, 9)),
                (head + "given n <= m + m", (2, 16)), (head + "given n <= 1 and", (2, 17)),
                (head + "given n <= 1, n <= 2", (2, 13)), (head + "given and <= 1", (2, 7)),
                (head + "  given n <= 1", (2, 3)), (head + "room a", (2, 7)), (head + "room a[0 . n]", (2, 10)),
                (head + "room a[0 .. n", (2, 14)), (head + "room a[0 .. n] b", (2, 16)), (head + "room a[]", None),
                (head + "room a[0]", (2, 9)), (head + "room 1[]", (2, 6)), (head + "room when[]", (2, 6)),
                (head + "keep", (2, 5)), (head + "keep a b", (2, 8)), (head + "keep a,,b", (2, 8)),
                (head + "keep a\nkeep b\nf(): a[] =\nkeep c", (5, 1)), (head + "f(): a[] =\n  keep c", (3, 3)),
                (head + "f(): a[] =\ngiven n <= 1", (3, 1)), (head + "f(): a[] =\nroom a[]", (3, 1))):
            self.assertEqual(told(text), where, text)

    def test_bodies(self):
        head = "sizes n\n"
        loop = head + "up i from 0 to n\n"
        run = "  f(i): a[i] =\n"
        for text, where in (
                (head + "f", (2, 2)), (head + "f(", (2, 3)), (head + "f()", (2, 4)), (head + "f():", (2, 5)),
                (head + "f(): a", (2, 7)), (head + "f(): a[", (2, 8)), (head + "f(): a[]", (2, 9)),
                (head + "f(): a[] =", None), (head + "f(): a[] =   ", None), (head + "f(): a[] = b", (2, 13)),
                (head + "f(): a[] = b[],", (2, 16)), (head + "f(): a[] = b[] c[]", (2, 16)),
                (head + "f(n,): a[] =", (2, 5)), (head + "f(n +): a[] =", (2, 6)), (head + "f(n + n): a[] =", (2, 7)),
                (head + "f(-n): a[] =", (2, 4)), (head + "f(n - -1): a[] =", (2, 7)), (head + "f(2n): a[] =", (2, 4)),
                (head + "f(): a[] == b[]", (2, 10)), (head + "7(): a[] =", (2, 1)), (head + "to(): a[] =", (2, 1)),
                (head + "f(): keep[] =", (2, 6)), (head + "f(): a[] = $", (2, 12)), (head + "f(:): a[] =", (2, 3)),
                (head + "up i from 0 to n", (3, 1)), (head + "up i from 0 to n\n\n# x\n\n", (3, 1)),
                (head + "up i from 0 to n\nf(): a[] =", (3, 1)), (loop + " f(i): a[i] =", (3, 2)),
                (loop + "    f(i): a[i] =", (3, 5)), (loop + "   f(i): a[i] =", (3, 4)), (loop + run, None),
                (loop + run + "    g(i): a[i] =", (4, 5)), (loop + run + " g(i): a[i] =", (4, 2)),
                (loop + run + "  up j from 0 to i\n  g(i): a[i] =", (5, 3)),
                (loop + run + "  when i <= 3", (5, 1)), (loop + run + "\n\n  when i <= 3\n\n", (7, 1)),
                (loop + run + "g(): a[0] =", None), (loop + run + "  g(i): a[i] =", None),
                (head + "  f(): a[] =", (2, 3)), (head + "up from 0 to n\n" + run, (2, 4)),
                (head + "up i for 0 to n\n" + run, (2, 6)), (head + "up i from to n\n" + run, (2, 11)),
                (head + "up i from 0 n\n" + run, (2, 13)), (head + "up i from 0 to n m\n" + run, (2, 18)),
                (head + "up i from 0 to\n" + run, (2, 15)), (head + "up i from 0 to \n" + run, (2, 16)),
                (head + "when n\n  f(): a[] =", (2, 7)), (head + "when\n  f(): a[] =", (2, 5)),
                (head + "when n <= 1 or n <= 2\n  f(): a[] =", (2, 13)),
                (head + "upi from 0 to n\n" + run, (2, 5)), (head + "up\ti from 0 to n\n" + run, (2, 3))):
            self.assertEqual(told(text), where, text)

    def test_only_the_parts_are_wrong(self):
        head = "sizes n\n"
        for text in (
                "sizes n, n", "sizes a, b, c, d", head + "keep a, a", head + "keep a\nkeep a", head + "given n <= n",
                head + "given m <= n", head + "given 1 <= 2", head + "given n + 9999 <= -1", head + "room a[i .. n]", head + "room a[]\nf(): a[0] =",
                head + "room a[0 .. 1, 0 .. 1, 0 .. 1, 0 .. 1, 0 .. 1]", head + "f(i): a[] =", head + "f(): a[0] = a[]",
                head + "f(): a[] =\nf(1): a[] =", head + "f(): a[] =\nf(): a[] = b[]", head + "f(): a[0, 0, 0, 0, 0] =",
                head + "up n from 0 to 1\n  f(): a[] =", head + "up i from i to 1\n  f(): a[] =",
                head + "up i from 0, 0 to 1\n  f(): a[] =", head + "up i from 0 to n, n + 0\n  f(): a[] =",
                head + "when n <= 1 and n <= 1\n  f(): a[] =", head + "f(): a[] = " + ", ".join(["a[]"] * 7),
                head + "f(" + ", ".join(["1"] * 9) + "): a[] ="):
            self.assertEqual(told(text), "nest", text)
        self.assertIsNone(told(head + "given n + 9998 <= -1"))

    def test_an_overridden_room_does_not_count(self):
        self.assertEqual(read_nest("sizes n\nroom a[0 .. x]\nroom a[]\nf(): a[] =").rooms, {"a": ()})

    def test_the_form_comes_first(self):
        self.assertEqual(told("sizes n, n\nf(): a[] = a[0]\ng("), (3, 3))
        self.assertEqual(told("sizes n\nf(: a[]\n  sizes"), (2, 3))

    def test_depth(self):
        def deep(many):
            return "sizes n\n" + "".join("  " * at + "when n <= 1\n" for at in range(many)) + "  " * many + "f(): a[] ="
        self.assertIsNone(told(deep(39)))
        self.assertEqual(told(deep(40)), "nest")
        self.assertEqual(told(deep(3000)), "nest")

    def test_no_text(self):
        for thing in (None, 3, b"sizes n", ["sizes n"], True):
            self.assertEqual(told(thing), (0, 0))

    def test_errors(self):
        self.assertEqual(BadText.__bases__, (LoopshedsError,))
        self.assertEqual(BadNest.__bases__, (LoopshedsError,))


if __name__ == "__main__":
    unittest.main()
