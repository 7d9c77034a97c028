"""[14]: texts of nests, written and read back."""

import random
import unittest

from loopsheds.nests import Nest, statements
from loopsheds.reading import read_nest
from loopsheds.writing import write_nest, write_numbered
from tests.nesting import Maker

RUN = ('run', 'g', (('i', 0), ('0', 2)), ('b', (('i', 1), ('n', -1))), (('t', ()),))
SMALL = Nest(('n', 'm'), (('m', 'n', 3),), {'t': ()}, (), (
    ('loop', 'i', (('0', 0), ('m', -2)), (('n', 0),), True, (('test', (('0', 'i', -1), ('i', 'm', 0)), (RUN,)),)),))
LONG = '''sizes n, m, k1
given n <= m - 3
given 0 <= n - 2
given n <= -9999
given m <= n
room a[0 .. n, -1 .. m - 1]
room b[]
room c[n + 3 .. 9999]
keep z, a
up i from -3, n - 1 to n, m + 9999
  down j from i, 0 to 0
    f(i - 1, j, 7, -7, n): a[i, j - 2] = b[], c[0]
    when i <= j and j <= 5 and 0 <= m - 1
      g(): b[] =
  g2(): b[] = b[]
h(): c[n] = a[0, 0], a[m, -1], b[], c[1], c[2], c[3]
'''


def parts(nest):
    return (nest.sizes, nest.given, nest.rooms, nest.kept, nest.body)


def loose(text, rng):
    """The text with other blanks, empty lines, remarks, comparisons turned round, head lines in another order."""
    lines = text.splitlines()
    found = []
    heads = [line for line in lines[1:] if line.split(" ")[0] in ("room", "keep")]
    given = [line for line in lines[1:] if line.startswith("given ")]
    rest = [line for line in lines[1:] if line not in heads and line not in given]
    rng.shuffle(heads)
    for line in [lines[0], *heads, *given, *rest]:
        body = line.lstrip(" ")
        indent = line[:len(line) - len(body)]
        if " <= " in body and rng.random() < 0.5:
            word, *_ = body.split(" ")
            comparisons = body[len(word) + 1:].split(" and ")
            body = word + " " + " and ".join(
                ">=".join(reversed(part.split(" <= "))) if rng.random() < 0.5 else part for part in comparisons)
        for sign in ("<=", ">=", "..", ",", "(", ")", "[", "]", ":", "="):
            if sign == "=" and ("<" in body or ">" in body):
                continue
            body = body.replace(sign, " " * rng.randint(0, 2) + sign + " " * rng.randint(0, 2))
        body = body.strip(" ").replace(" + ", rng.choice(["+", " + ", "  +"]))
        found.extend(rng.choice([[], [""], ["   "], ["# keep x"], ["     # y"]]))
        found.append(indent + body + " " * rng.randint(0, 2))
    return "\n".join(found) + rng.choice(["", "\n", "\n\n", "\n# z"])


class WritingTest(unittest.TestCase):
    def test_example(self):
        self.assertEqual(write_nest(SMALL), 'sizes n, m\ngiven m <= n + 3\nroom t[]\ndown i from 0, m - 2 to n\n'
                         '  when 0 <= i - 1 and i <= m\n    g(i, 2): b[i + 1, n - 1] = t[]\n')

    def test_long(self):
        nest = read_nest(LONG)
        self.assertEqual(write_nest(nest), LONG)
        self.assertEqual(parts(read_nest(write_nest(nest))), parts(nest))

    def test_rooms_ascend(self):
        nest = Nest(("n",), (), {"b": (), "a1": (), "a": (), "a_": ()}, (), ())
        self.assertEqual(write_nest(nest), "sizes n\nroom a[]\nroom a1[]\nroom a_[]\nroom b[]\n")
        self.assertEqual(write_nest(Nest(("n",), (), {}, (), ())), "sizes n\n")

    def test_many_nests(self):
        for seed in range(200):
            rng = random.Random(seed)
            nest = Maker(rng).nest(4, 3)
            nest = Nest(nest.sizes, nest.given, {"a": ((("0", 0), (nest.sizes[0], seed - 100)),)}, nest.kept, nest.body)
            text = write_nest(nest)
            self.assertEqual(parts(read_nest(text)), parts(nest))
            self.assertEqual(write_nest(read_nest(text)), text)
            self.assertEqual(parts(read_nest(loose(text, rng))), parts(nest), loose(text, rng))
            self.assertTrue(text.endswith("\n"))
            self.assertEqual(text[:-1], "\n".join(line.rstrip(" ") for line in text[:-1].split("\n")))

    def test_loose_texts(self):
        for seed in range(40):
            self.assertEqual(parts(read_nest(loose(LONG, random.Random(seed)))), parts(read_nest(LONG)))

    def test_numbered(self):
        self.assertEqual(write_numbered(SMALL), [
            '     down i from 0, m - 2 to n', '       when 0 <= i - 1 and i <= m',
            '   0     g(i, 2): b[i + 1, n - 1] = t[]'])
        body = LONG.splitlines()[9:]
        found = write_numbered(read_nest(LONG))
        self.assertEqual([line[5:] for line in found], body)
        self.assertEqual([line[:5] for line in found],
                         ["     ", "     ", "   0 ", "     ", "   1 ", "   2 ", "   3 "])
        self.assertEqual(write_numbered(read_nest("sizes n\nkeep a\n")), [])
        many = read_nest("sizes n\n" + "".join(f"f{at}(): a[] =\n" for at in range(120)))
        for at, line in enumerate(write_numbered(many)):
            self.assertEqual(line, f"{at:>4} f{at}(): a[] =")
            self.assertEqual(statements(many)[at].label, f"f{at}")

    def test_depth(self):
        text = "sizes n\n" + "".join("  " * at + "when n <= 1\n" for at in range(39)) + "  " * 39 + "f(): a[] =\n"
        self.assertEqual(write_nest(read_nest(text)), text)


if __name__ == "__main__":
    unittest.main()
