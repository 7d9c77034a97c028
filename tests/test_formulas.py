"""[7]: the texts of formulas, and their free names."""

import random
import unittest

from loopsheds.errors import BadText
from loopsheds.formulas import free_names, read_formula, write_formula
from tests.helpers import random_formula

LESS = ("compare", "<", ("i", 0), ("j", 0))
MORE = ("compare", ">", ("i", 0), ("j", 0))
GOOD = {
    "i<j": LESS,
    " ( ( i < j ) ) ": LESS,
    "1=-0": ("compare", "=", ("0", 1), ("0", 0)),
    "- 9999 != i+0": ("compare", "!=", ("0", -9999), ("i", 0)),
    "abcdefgh+12>=z-9999": ("compare", ">=", ("abcdefgh", 12), ("z", -9999)),
    "i - 3<=j": ("compare", "<=", ("i", -3), ("j", 0)),
    "not3>i": ("not", ("compare", ">", ("0", 3), ("i", 0))),
    "not not i<j": ("not", ("not", LESS)),
    "not i<j and i>j": ("and", (("not", LESS), MORE)),
    "i<j or i>j and i<j or i<j": ("or", (LESS, ("and", (MORE, LESS)), LESS)),
    "i<j and i>j and i<j": ("and", (LESS, MORE, LESS)),
    "(i<j and i>j) and i<j": ("and", (("and", (LESS, MORE)), LESS)),
    "(i<j or i>j) and i<j": ("and", (("or", (LESS, MORE)), LESS)),
    "all i j: i<j or i>j": ("all", "i", ("all", "j", ("or", (LESS, MORE)))),
    "i<j and some i: i<j or i>j": ("and", (LESS, ("some", "i", ("or", (LESS, MORE))))),
    "(some i: i<j) or i>j": ("or", (("some", "i", LESS), MORE)),
    "not some i: i<j and i>j": ("not", ("some", "i", ("and", (LESS, MORE)))),
    "(all i: i<j) and all i: i>j": ("and", (("all", "i", LESS), ("all", "i", MORE))),
    "some i: all j: some k: i<j": ("some", "i", ("all", "j", ("some", "k", LESS))),
}
BAD = {
    "": 1, "   ": 4, "i": 2, "i ": 3, "i <": 4, "i < j )": 7, "(i<j": 5, "(i<j ": 6, "i<j)": 4, "not": 4, "all": 4,
    "all i": 6, "all i:": 7, "all : i<j": 5, "all all: i<j": 5, "some not: i<j": 6, "all i i: i<j": 7,
    "all i: some i: i<j": 13, "all i: (i<j or some j i: i<j)": 23, "all i: i<j and some i: i<j": 21,
    "i = 01": 5, "i = 12345": 5, "00 = i": 1, "abcdefghi < j": 1, "i<abcdefghij": 3, "all abcdefghi: i<j": 5,
    "i==j": 3, "i=<j": 3, "i<<=j": 3, "i< =j": 4, "i+-3<j": 3, "i+j<3": 3, "3+i<j": 2, "-i<j": 2, "--3<j": 2, "i3<j": 2,
    "i j<3": 3, "i<j k": 5, "i<j i<j": 5, "i<j and": 8, "i<j and and": 9, "i<j or )": 8, "and i<j": 1, "(": 2, "()": 2,
    "(i<j)(i<j)": 6, "(i)<j": 3, "i<j not i<j": 5, "i<or": 3, ":": 1, "all i, j: i<j": 6, "i<j;": 4, "I<j": 1, "i\t<j": 2,
    "i<j\n": 4, "i ! j": 3, "i !": 3, "i ! = j": 3, "i<j)) and $": 11, "all all $ !": 9, "i ? < ? j": 3, "_<j": 1,
    "\u00e4<j": 1, "i<\u0663": 3, "i < 1.5": 6,
}


class FormulasTest(unittest.TestCase):
    def test_examples(self):
        found = read_formula("all i: i < n or some j: j = i + 1")
        self.assertEqual(found, ('all', 'i', ('or', (('compare', '<', ('i', 0), ('n', 0)),
                                                     ('some', 'j', ('compare', '=', ('j', 0), ('i', 1)))))))
        text = write_formula(read_formula("all i:(some j :j=i+1)or  not(i<=n and n<=-2)"))
        self.assertEqual(text, 'all i: (some j: j = i + 1) or not (i <= n and n <= -2)')
        found = read_formula("not i = j and all k: k < i or k > i")
        self.assertEqual((found[0], len(found[1]), found[1][1][0]), ("and", 2, "all"))

    def test_read(self):
        for text, formula in GOOD.items():
            self.assertEqual(read_formula(text), formula, text)
            self.assertEqual(read_formula(write_formula(formula)), formula)

    def test_bad_texts(self):
        for text, column in BAD.items():
            with self.assertRaises(BadText) as caught:
                read_formula(text)
            self.assertEqual((caught.exception.line, caught.exception.column), (1, column), text)

    def test_write(self):
        texts = ["all i j: i < j", "some i: all j k: some l: i < j + 1", "not not i != -3", "0 = i - 9999",
                 "(i < j and i > j) and i < j", "(all i: i < j) or (some i: i < j)", "not (all i: not i < j)",
                 "not (i < j or i > j) and (i < j or (i = 3 and 4 >= i))", "all i: i < 0 and (some j: j = -1 or i = 2)"]
        for text in texts:
            self.assertEqual(write_formula(read_formula(text)), text)
        self.assertEqual(write_formula(read_formula("all i: all j: (((i<j)))")), "all i j: i < j")
        self.assertEqual(write_formula(("compare", "<", ("0", -2), ("i", 0))), "-2 < i")

    def test_random_texts(self):
        rng = random.Random(1)
        for _ in range(500):
            formula = random_formula(rng, ["i", "j", "k", "l", "m", "n"], 4, 9)
            text = write_formula(formula)
            try:
                self.assertEqual(read_formula(text), formula)
            except BadText as error:
                self.assertIn(text[error.column - 1], "ijklmn")
            self.assertNotIn("  ", text)

    def test_first_word_that_cannot_follow(self):
        """A text that is cut behind any word goes on; a word that cannot follow is told where it stands."""
        words = ["i", "3", "<", "+", "-", "(", ")", "not", "and", "or", "all", "some", ":", "k"]
        rng = random.Random(2)
        for _ in range(300):
            parts = write_formula(random_formula(rng, ["i"], 3, 0)).replace("(", "( ").replace(")", " )").split()
            cut = rng.randint(0, len(parts))
            start = " ".join(parts[:cut])
            for word in words:
                text = f"{start} {word}"
                self.assertIn(self.column(text), (None, len(start) + 2, len(text) + 1), text)

    def column(self, text):
        try:
            read_formula(text)
        except BadText as error:
            return error.column

    def test_deep_texts(self):
        text = "not " * 3000 + "(" * 3000 + "i < j" + ")" * 3000
        formula = read_formula(text)
        self.assertEqual(write_formula(formula), "not " * 3000 + "i < j")
        self.assertEqual(free_names(formula), ("i", "j"))
        with self.assertRaises(BadText) as caught:
            read_formula(text[:-1])
        self.assertEqual(caught.exception.column, len(text))

    def test_free_names(self):
        self.assertEqual(free_names(read_formula("k < j + 1 or i = k and 3 < 4")), ("k", "j", "i"))
        self.assertEqual(free_names(read_formula("(some i: i < j) and i < k and all j: j < m")), ("j", "i", "k", "m"))
        self.assertEqual(free_names(read_formula("all i: some j: i < j")), ())
        self.assertEqual(free_names(("all", "i", ("or", (("some", "i", LESS), MORE)))), ("j",))
        self.assertEqual(free_names(("or", (("some", "i", ("some", "i", LESS)), MORE))), ("j", "i"))

    def test_by_position(self):
        with self.assertRaises(TypeError):
            write_formula(formula=LESS)
        self.assertEqual(read_formula(text="i < j"), LESS)
        self.assertEqual(free_names(formula=LESS), ("i", "j"))


if __name__ == "__main__":
    unittest.main()
