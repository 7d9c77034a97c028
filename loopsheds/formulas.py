"""Formulas: reading and writing their texts, and their free names."""

from loopsheds.errors import BadText
from loopsheds.signs import NUMBER, OPERATORS, WORD, is_word_name, words_of

KINDS = ("all", "some")


class FormulaLevel:
    """What was read of one formula of rows: behind the beginning, a parenthesis or a quantifier."""

    def __init__(self, quantifiers, closes):
        self.quantifiers = quantifiers
        self.closes = closes
        self.choices = []
        self.parts = []
        self.denials = 0


class FormulaReader:
    """A reader of the words of one text; it keeps its levels itself, so that any depth can be read."""

    def __init__(self, text):
        self.words = words_of(text)
        self.at = 0
        self.end = len(text) + 1
        self.levels = [FormulaLevel([], False)]
        self.bound = {}

    def word(self):
        """The word at hand, or an empty one behind the end."""
        if self.at < len(self.words):
            return self.words[self.at][0]
        return ""

    def is_kind(self, kind):
        """Whether the word at hand is of a kind."""
        return self.at < len(self.words) and self.words[self.at][1] == kind

    def check(self, fits):
        """Raise the error for the word at hand if it does not fit."""
        if not fits:
            column = self.words[self.at][2] if self.at < len(self.words) else self.end
            raise BadText(1, column)

    def taken(self, fits):
        """The word at hand, which fits, and go on to the next one."""
        self.check(fits)
        found = self.word()
        self.at = self.at + 1
        return found

    def formula(self):
        """The formula of the whole text."""
        while True:
            self.open_levels()
            found = self.closed(self.comparison())
            if found is not None:
                return found

    def open_levels(self):
        """Read all that stands in front of the next comparison."""
        while True:
            word = self.word()
            if word == "not":
                self.at = self.at + 1
                self.levels[-1].denials = self.levels[-1].denials + 1
            elif word == "(":
                self.at = self.at + 1
                self.levels.append(FormulaLevel([], True))
            elif word in KINDS:
                self.levels.append(FormulaLevel(self.read_quantifiers(), False))
            else:
                return

    def read_quantifiers(self):
        """The pairs of kind and name of a quantifier, up to behind its colon."""
        kind = self.taken(True)
        found = []
        while not found or self.word() != ":":
            name = self.word()
            self.taken(self.is_kind(WORD) and is_word_name(name) and name not in self.bound)
            self.bound[name] = True
            found.append((kind, name))
        self.at = self.at + 1
        return found

    def comparison(self):
        """The comparison at hand."""
        one = self.term()
        operator = self.taken(self.word() in OPERATORS)
        return ("compare", operator, one, self.term())

    def term(self):
        """The atom of the term at hand."""
        if self.word() == "-":
            self.at = self.at + 1
            return ("0", -self.number())
        if self.is_kind(NUMBER):
            return ("0", self.number())
        name = self.taken(self.is_kind(WORD) and is_word_name(self.word()))
        if self.word() == "+":
            self.at = self.at + 1
            return (name, self.number())
        if self.word() == "-":
            self.at = self.at + 1
            return (name, -self.number())
        return (name, 0)

    def number(self):
        """The number at hand."""
        word = self.word()
        fits = self.is_kind(NUMBER) and len(word) <= 4 and (word == "0" or word[0] != "0")
        return int(self.taken(fits))

    def closed(self, formula):
        """Put a formula into its row and close what ends here; the whole formula at the end."""
        found = formula
        while True:
            level = self.levels[-1]
            for _ in range(level.denials):
                found = ("not", found)
            level.denials = 0
            level.parts.append(found)
            if self.word() in ("and", "or"):
                if self.taken(True) == "or":
                    level.choices.append(_row("and", level.parts))
                    level.parts = []
                return None
            level.choices.append(_row("and", level.parts))
            found = self.left(level, _row("or", level.choices))
            if not self.levels:
                return found

    def left(self, level, formula):
        """Leave a level that ends at the word at hand; the formula with what opened the level."""
        found = formula
        self.levels.pop()
        if level.closes:
            self.taken(self.word() == ")")
        elif not self.levels:
            self.check(self.at == len(self.words))
        for kind, name in level.quantifiers[::-1]:
            del self.bound[name]
            found = (kind, name, found)
        return found


def _row(word, parts):
    if len(parts) == 1:
        return parts[0]
    return (word, tuple(parts))


def read_formula(text):
    """The formula of a text."""
    return FormulaReader(text).formula()


def write_formula(formula, /):
    """The text of a formula."""
    found = []
    waiting = [formula]
    while waiting:
        at_hand = waiting.pop()
        if isinstance(at_hand, str):
            found.append(at_hand)
        else:
            waiting.extend(_written(at_hand)[::-1])
    return "".join(found)


def _written(formula):
    """The texts and formulas, one after the other, that make up the text of a formula."""
    word = formula[0]
    if word == "compare":
        return [f"{_term(formula[2])} {formula[1]} {_term(formula[3])}"]
    if word == "not":
        return ["not ", *_enclosed(formula[1])]
    if word in KINDS:
        names = []
        inner = formula
        while inner[0] == word:
            names.append(inner[1])
            inner = inner[2]
        row = " ".join(names)
        return [f"{word} {row}: ", inner]
    found = []
    for part in formula[1]:
        if found:
            found.append(f" {word} ")
        found.extend(_enclosed(part))
    return found


def _enclosed(formula):
    """A part of a row, or what is denied, in parentheses where they are due."""
    if formula[0] in ("compare", "not"):
        return [formula]
    return ["(", formula, ")"]


def _term(atom):
    name, shift = atom
    if name == "0":
        return str(shift)
    if shift == 0:
        return name
    if shift < 0:
        return f"{name} - {-shift}"
    return f"{name} + {shift}"


def free_names(formula):
    """The free names of a formula in the order of their first occurrence."""
    found = {}
    bound = {}
    waiting = [formula]
    while waiting:
        at_hand = waiting.pop()
        word = at_hand[0]
        if word == "compare":
            for name, _ in at_hand[2:]:
                if name != "0" and bound.get(name, 0) == 0:
                    found[name] = True
        elif word == "leave":
            bound[at_hand[1]] = bound[at_hand[1]] - 1
        elif word == "not":
            waiting.append(at_hand[1])
        elif word in KINDS:
            bound[at_hand[1]] = bound.get(at_hand[1], 0) + 1
            waiting.extend([("leave", at_hand[1]), at_hand[2]])
        else:
            waiting.extend(at_hand[1][::-1])
    return tuple(found)
