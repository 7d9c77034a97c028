"""[31]: books of named nests."""

import unittest

from loopsheds.agreeing import Verdict
from loopsheds.books import Book
from loopsheds.errors import BadName
from loopsheds.faults import BadMove, Changed, Doubled, NoMove, NoNest, NoNode, NothingDone, TooLarge
from loopsheds.nests import Nest
from loopsheds.reading import read_nest
from loopsheds.writing import write_nest

WALK = read_nest('sizes n\nkeep a\nup i from 1 to n\n  f(i): a[i] = a[i - 1]\n')
FREE = read_nest('sizes n\nkeep a\nup i from 1 to n\n  f(i): a[i] = b[i]\n')
TWICE = read_nest('sizes n\nkeep a\nup i from 1 to n\n  f(0): a[i] = b[i]\n')
OTHER = read_nest('sizes m\nf(0): t[] =\n')
SHIFT, BACK = ("shift", (0,), 1), ("shift", (0,), -1)
REVERSE = ("reverse", (0,))


class Mishap(Exception):
    """What a deed may end by."""


def texts(book):
    return {name: (write_nest(book[name]), book.moves_of(name)) for name in book.titles}


class BookTest(unittest.TestCase):
    def refused(self, error, call, **told):
        with self.assertRaises(error) as caught:
            call()
        self.assertEqual({name: getattr(caught.exception, name) for name in told}, told)

    def test_example(self):
        book = Book(walk=WALK)
        late = book.move('walk', SHIFT)
        self.assertEqual(late.body[0][2:4], ((('0', 2),), (('n', 1),)))
        self.assertEqual((book.titles, book.moves_of('walk'), book.undo('walk')), (['walk'], [(SHIFT,)], (SHIFT,)))
        self.assertEqual(book['walk'].body, WALK.body)

    def test_names(self):
        book = Book(walk=WALK, free=FREE)
        self.assertEqual((len(book), book.titles), (2, ["free", "walk"]))
        self.assertTrue("walk" in book and "free" in book)
        for thing in ("run", 1, None, ("walk",), True, ["walk"], {}):
            self.assertNotIn(thing, book)
        book["run"] = OTHER
        self.assertEqual((len(book), book.titles, write_nest(book["run"])), (3, ["free", "run", "walk"], write_nest(OTHER)))
        book.titles.append("more")
        self.assertEqual(book.titles, ["free", "run", "walk"])
        self.assertEqual([Book.is_name(thing) for thing in ("a", "a_1", "a23456789012", "self")], [True] * 4)
        self.assertEqual([Book.is_name(thing) for thing in ("", "A", "1a", "up", "keep", "a234567890123", None, 3, "a b")],
                         [False] * 9)
        self.assertEqual(book.is_name("x"), True)

    def test_a_book_is_not_iterated_over(self):
        for call in (iter, list, lambda book: [one for one in book]):
            with self.assertRaises(TypeError):
                call(Book(walk=WALK))

    def test_errors_of_names(self):
        book = Book(walk=WALK)
        for name in ("run", "", 1, None, ("walk",), ["walk"]):
            for call in (lambda: book[name], lambda: book.take(name), lambda: book.moves_of(name),
                         lambda: book.alike(name), lambda: book.undo(name), lambda: book.move(name, "no move"),
                         lambda: book.force(name, "no move")):
                self.refused(NoNest, call, name=name)
        for name in ("", "A", "up", 1, None, "a234567890123", ("a",)):
            self.refused(BadName, lambda: book.__setitem__(name, WALK), name=name)
        for thing in (None, "walk", WALK.body, book):
            self.refused(BadName, lambda: book.__setitem__("other", thing), name="other")
            self.refused(BadName, lambda: book.__setitem__("walk", thing), name="walk")
        self.refused(BadName, lambda: Book(a=WALK, Up=WALK, X=WALK), name="Up")
        self.refused(BadName, lambda: Book(a=WALK, b=None, C=WALK), name="b")
        self.assertEqual(texts(book), texts(Book(walk=WALK)))

    def test_full_book(self):
        names = [f"n{at:02d}" for at in range(Book.MOST)]
        book = Book(**{name: WALK for name in names})
        self.assertEqual((Book.MOST, len(book)), (40, 40))
        self.refused(BadName, lambda: book.__setitem__("more", WALK), name="more")
        self.refused(BadName, lambda: Book(**{name: WALK for name in reversed(names)}, m=WALK, l=WALK), name="m")
        book["n00"] = FREE
        before = texts(book)
        self.refused(BadName, lambda: book.__iadd__(Book(zz=WALK, n01=FREE, aa=WALK)), name="aa")
        self.assertEqual(texts(book), before)
        book += Book(n01=FREE)
        self.assertEqual(write_nest(book["n01"]), write_nest(FREE))
        book.take("n05")
        self.refused(BadName, lambda: book.__iadd__(Book(zz=WALK, n01=WALK, aa=WALK)), name="zz")
        self.assertEqual(write_nest(book["n01"]), write_nest(FREE))
        book += Book(zz=WALK)
        self.assertEqual(len(book), 40)
        self.refused(BadName, lambda: Book.joined(book, Book(n05=WALK, b=WALK)), name="b")
        self.refused(BadName, lambda: Book.joined(Book(z=WALK), book), name="zz")

    def test_books_are_joined(self):
        one, other = Book(a=WALK, b=FREE), Book(b=OTHER, c=WALK)
        one.move("b", REVERSE)
        other.force("c", REVERSE)
        both = Book.joined(one, other)
        self.assertEqual((both.titles, write_nest(both["b"])), (["a", "b", "c"], write_nest(OTHER)))
        self.assertEqual([both.moves_of(name) for name in "abc"], [[], [], []])
        self.assertEqual(write_nest(both["c"]), write_nest(other["c"]))
        same = one
        one += other
        self.assertTrue(same is one)
        self.assertEqual(texts(one), texts(both))
        one += one
        self.assertEqual(texts(one), texts(both))
        self.assertEqual((len(Book.joined()), Book.joined().titles), (0, []))
        self.assertEqual(texts(Book.joined(other))["c"], (write_nest(other["c"]), []))
        self.assertEqual(other.moves_of("c"), [(REVERSE,)])

    def test_take(self):
        book = Book(a=WALK, b=FREE)
        book.move("a", SHIFT)
        late = book["a"]
        self.assertEqual(write_nest(book.take("a")), write_nest(late))
        self.assertEqual((book.titles, "a" in book, len(book)), (["b"], False, 1))
        book["a"] = late
        self.refused(NothingDone, lambda: book.undo("a"))

    def test_moves(self):
        book = Book(walk=WALK)
        self.refused(Changed, lambda: book.move("walk", REVERSE), sizes={"n": 2})
        self.assertEqual(texts(book), texts(Book(walk=WALK)))
        book.move("walk", REVERSE, SHIFT, REVERSE)
        book.move("walk")
        verdict = book.force("walk", REVERSE)
        self.assertIsInstance(verdict, Verdict)
        self.assertEqual((verdict.is_same, verdict.sizes, verdict.kind), (False, {"n": 2}, "reads"))
        self.assertTrue(book.force("walk", BACK).is_same)
        self.assertEqual(book.moves_of("walk"), [(REVERSE, SHIFT, REVERSE), (), (REVERSE,), (BACK,)])
        self.assertTrue(book["walk"].body[0][4])
        book.moves_of("walk").clear()
        told = [book.undo("walk") for _ in range(4)]
        self.assertEqual(told, [(BACK,), (REVERSE,), (), (REVERSE, SHIFT, REVERSE)])
        self.assertEqual((book["walk"].body, book.moves_of("walk")), (WALK.body, []))
        self.refused(NothingDone, lambda: book.undo("walk"))
        book.move("walk", SHIFT)
        book["walk"] = book["walk"]
        self.refused(NothingDone, lambda: book.undo("walk"))

    def test_errors_of_moves(self):
        book = Book(walk=WALK, twice=TWICE, far=read_nest('sizes n\nup i from 9999 to n\n  f(i): t[] =\n'))
        before = texts(book)
        for do in (book.move, book.force):
            self.refused(BadMove, lambda: do("walk", ("reverse", (9,)), ("swap",)))
            self.refused(BadMove, lambda: do("walk", REVERSE, ["reverse", (0,)]))
            self.refused(NoNode, lambda: do("walk", REVERSE, ("reverse", (9,)), ("swap", (0,))), path=(9,))
            self.refused(NoMove, lambda: do("twice", REVERSE, ("swap", (0,))), kind="swap")
            self.refused(TooLarge, lambda: do("far", BACK, SHIFT, SHIFT))
            self.refused(Doubled, lambda: do("twice", REVERSE), label="f")
            self.refused(Doubled, lambda: do("twice"), label="f")
        self.assertEqual(texts(book), before)

    def test_alike(self):
        book = Book(a=WALK, c=FREE, b=WALK, d=OTHER)
        self.assertEqual([book.alike(name) for name in "abcd"], [["b"], ["a"], [], []])
        book["e"] = read_nest('sizes n\nkeep a\ndown j from 1 to n\n  f(j): a[j] = b[j]\n')
        self.assertEqual(book.alike("c"), ["e"])
        book["t"] = TWICE
        self.refused(Doubled, lambda: book.alike("a"), label="f")
        self.refused(Doubled, lambda: book.alike("t"), label="f")
        self.assertEqual(book.alike("d"), [])
        alone = Book(t=TWICE, d=OTHER)
        self.assertEqual(alone.alike("t"), [])
        named = read_nest('sizes n\nkeep a\nup i from 1 to n\n  g(0): a[i] =\n')
        self.refused(Doubled, lambda: Book(a=WALK, b=named, c=TWICE).alike("a"), label="g")

    def test_trials(self):
        book = Book(a=WALK, b=FREE)
        book.move("a", SHIFT)
        before = texts(book)
        with self.assertRaises(Mishap):
            with book.trial() as draft:
                self.assertTrue(draft is book)
                draft.move("b", REVERSE)
                draft.undo("a")
                draft["c"] = OTHER
                draft.take("b")
                draft += Book(d=WALK)
                self.assertEqual(book.titles, ["a", "c", "d"])
                raise Mishap()
        self.assertEqual(texts(book), before)
        with book.trial() as draft:
            draft.move("b", REVERSE)
        self.assertEqual(book.moves_of("b"), [(REVERSE,)])
        self.assertEqual(book.moves_of("a"), [(SHIFT,)])

    def test_trials_in_one_another(self):
        book = Book(a=WALK)
        with book.trial():
            book.move("a", SHIFT)
            with self.assertRaises(Changed):
                with book.trial():
                    book["b"] = FREE
                    book.move("a", SHIFT)
                    book.move("a", REVERSE)
            self.assertEqual((book.titles, book.moves_of("a")), (["a"], [(SHIFT,)]))
            with book.trial():
                book["b"] = FREE
        self.assertEqual((book.titles, book.moves_of("a")), (["a", "b"], [(SHIFT,)]))
        with self.assertRaises(Mishap):
            with book.trial():
                with book.trial():
                    book.take("a")
                raise Mishap()
        self.assertEqual((book.titles, book.moves_of("a")), (["a", "b"], [(SHIFT,)]))
        trial = book.trial()
        book.undo("a")
        with self.assertRaises(KeyboardInterrupt):
            with trial:
                book.take("a")
                raise KeyboardInterrupt()
        self.assertEqual((book.titles, book.moves_of("a")), (["a", "b"], []))

    def test_attempts(self):
        book = Book(a=WALK)
        seen = []

        def fine(draft):
            seen.append(draft is book)
            draft["b"] = FREE
            return draft.move("a", SHIFT)

        def wrong(draft):
            draft.attempt(fine)
            draft.take("b")
            raise Mishap()
        with self.assertRaises(Mishap):
            book.attempt(wrong)
        self.assertEqual((book.titles, book.moves_of("a")), (["a"], []))
        self.assertEqual(book.attempt(fine).body, book["a"].body)
        self.assertEqual((book.titles, book.moves_of("a"), seen), (["a", "b"], [(SHIFT,)], [True, True]))
        self.assertIsNone(book.attempt(lambda draft: None))
        self.assertEqual(book.attempt(len), 2)

    def test_books_do_not_hang_together(self):
        one = Book(a=WALK)
        other = Book.joined(one)
        one.move("a", SHIFT)
        self.assertEqual(other["a"].body, WALK.body)
        self.assertEqual(Book().titles, [])
        nest = Nest(("n",), (), {}, (), ())
        book = Book(x=nest)
        nest.body = WALK.body
        self.assertEqual(book["x"].body, ())

    def test_nests_that_were_handed_out_do_not_matter(self):
        book = Book(a=WALK)
        handed = [book["a"], book.move("a", SHIFT), book["a"]]
        try:
            book.attempt(lambda draft: (handed.append(draft.take("a")), draft["none"]))
        except NoNest:
            pass
        self.assertEqual(len(handed), 4)
        before = texts(book)
        for nest in handed:
            nest.body, nest.kept = (), ()
        self.assertEqual(texts(book), before)
        book.undo("a")
        self.assertEqual(book["a"].body, WALK.body)


if __name__ == "__main__":
    unittest.main()
