"""Books: named nests, and what was done to them."""

from loopsheds.agreeing import agree
from loopsheds.errors import BadName, Unlike
from loopsheds.faults import Changed, NoNest, NothingDone
from loopsheds.moves import check_move, followed
from loopsheds.nests import Nest
from loopsheds.parts import is_nest_name


class Sheet:
    """A nest, with the sheet that was there before the last call that moved it, and the moves of that call.

    Sheets are never changed, so what a trial has to put back is only which sheets a book had.
    """

    def __init__(self, nest, before, moves):
        self.nest = nest
        self.before = before
        self.moves = moves


class Trial:
    """Work on a book that is put back if it ends by an error."""

    def __init__(self, book):
        self.book = book
        self.sheets = book.sheets

    def __enter__(self):
        self.sheets = self.book.sheets
        return self.book

    def __exit__(self, kind, value, trace):
        book = self.book
        if kind is not None:
            book.sheets = self.sheets


class Book:
    """Nests with names. The dict of its sheets is never changed, only replaced."""

    MOST = 40

    def __init__(self, **nests):
        self.sheets = {}
        for name, nest in nests.items():
            self[name] = nest

    @staticmethod
    def is_name(thing):
        """Whether something can be the name of a nest."""
        return is_nest_name(thing)

    @classmethod
    def joined(cls, *books):
        """A new book with the nests of several."""
        made = cls()
        for book in books:
            made.put_all(book)
        return made

    @property
    def titles(self):
        """The ascending list of the names."""
        return sorted(list(self.sheets))

    def __getitem__(self, name):
        return _copy_of(self.sheet_of(name).nest)

    def __setitem__(self, name, nest):
        if not is_nest_name(name) or not isinstance(nest, Nest):
            raise BadName(name)
        if name not in self.sheets and len(self.sheets) >= Book.MOST:
            raise BadName(name)
        self.sheets = {**self.sheets, name: _first_sheet(nest)}

    def __contains__(self, name):
        return isinstance(name, str) and name in self.sheets

    def __len__(self):
        return len(self.sheets)

    def __iter__(self):
        raise TypeError("a book is not iterated over")

    def __iadd__(self, other):
        self.put_all(other)
        return self

    def put_all(self, other):
        """Put all nests of another book into this one, or none if they are too many."""
        fresh = [name for name in other.titles if name not in self.sheets]
        free = Book.MOST - len(self.sheets)
        if len(fresh) > free:
            raise BadName(fresh[free])
        self.sheets = {**self.sheets, **{name: _first_sheet(other.sheets[name].nest) for name in other.titles}}

    def sheet_of(self, name):
        """The sheet of a nest."""
        if not isinstance(name, str) or name not in self.sheets:
            raise NoNest(name)
        return self.sheets[name]

    def take(self, name):
        """Take a nest out."""
        nest = self.sheet_of(name).nest
        self.sheets = {other: self.sheets[other] for other in self.sheets if other != name}
        return _copy_of(nest)

    def move(self, name, *moves):
        """Do moves, if the nest agrees with what it was ahead of them, and return it."""
        late, verdict = self.tried(name, moves)
        if not verdict:
            raise Changed(verdict.sizes)
        self.sheets = {**self.sheets, name: Sheet(late, self.sheets[name], moves)}
        return _copy_of(late)

    def force(self, name, *moves):
        """Do moves in any case, and return the verdict."""
        late, verdict = self.tried(name, moves)
        self.sheets = {**self.sheets, name: Sheet(late, self.sheets[name], moves)}
        return verdict

    def tried(self, name, moves):
        """A nest after moves, and the verdict on it and the nest ahead of them."""
        nest = self.sheet_of(name).nest
        for step in moves:
            check_move(step)
        late = followed(nest, *moves)
        return late, agree(nest, late)

    def undo(self, name):
        """Put a nest back to what it was ahead of the last call that moved it, and return the moves."""
        sheet = self.sheet_of(name)
        if sheet.before is None:
            raise NothingDone("nothing was done to it")
        self.sheets = {**self.sheets, name: sheet.before}
        return sheet.moves

    def moves_of(self, name):
        """The list of the moves of all calls that moved a nest and were not undone, the earliest first."""
        found = []
        sheet = self.sheet_of(name)
        while sheet.before is not None:
            found.append(sheet.moves)
            sheet = sheet.before
        return found[::-1]

    def alike(self, name):
        """The ascending list of the other names whose nests agree with a nest."""
        nest = self.sheet_of(name).nest
        return [other for other in self.titles if other != name and _agrees(nest, self.sheets[other].nest)]

    def trial(self):
        """A Trial of this book."""
        return Trial(self)

    def attempt(self, deed):
        """Call something with the book in a trial, and return what it returns."""
        with self.trial() as draft:
            told = deed(draft)
        return told


def _copy_of(nest):
    """A new nest with the same parts; those that a book has are known to nobody else."""
    return Nest(nest.sizes, nest.given, nest.rooms, nest.kept, nest.body)


def _first_sheet(nest):
    """The sheet of a copy of a nest to which nothing was done."""
    return Sheet(_copy_of(nest), None, ())


def _agrees(nest, other):
    """Whether two nests can be compared and agree."""
    try:
        return bool(agree(nest, other))
    except Unlike:
        return False
