"""The words of one line of the text of a nest, taken from left to right."""

from loopsheds.errors import BadText
from loopsheds.parts import LETTERS, SIGNS, is_nest_name

DIGITS = "0123456789"
PAIRS = ("<=", ">=", "==", "..")
SINGLES = ",+-()[]:=<>"
MOST_DIGITS = 4


class Words:
    """A line with its number, read from left to right; what does not fit is told with its column."""

    def __init__(self, line, number):
        self.line = line
        self.line_number = number
        self.indent = len(line) - len(line.lstrip(" "))
        self.at = 0
        self.next_word = ""
        self.go_on(0)

    def go_on(self, start):
        """Find the first word from here on: `at` is its place, and the word is empty behind the last one."""
        at = start
        while at < len(self.line) and self.line[at] == " ":
            at = at + 1
        self.at = at
        self.next_word = _word_at(self.line, at)

    def refuse(self):
        """Tell that the next word does not fit, or that the line ends too early."""
        raise BadText(self.line_number, self.at + 1)

    def has(self, word):
        """Take a word, if it is the next one; whether it was."""
        if self.next_word != word:
            return False
        self.go_on(self.at + len(word))
        return True

    def take(self, word):
        """Take this word."""
        if not self.has(word):
            self.refuse()

    def take_one(self, words):
        """Take one of these words, and return it."""
        word = self.next_word
        if word not in words:
            self.refuse()
        self.go_on(self.at + len(word))
        return word

    def take_name(self):
        """Take a name, and return it."""
        word = self.next_word
        if not is_nest_name(word):
            self.refuse()
        self.go_on(self.at + len(word))
        return word

    def take_number(self):
        """Take a number, and return its value."""
        word = self.next_word
        if word == "" or word[0] not in DIGITS or len(word) > MOST_DIGITS or (word[0] == "0" and len(word) > 1):
            self.refuse()
        self.go_on(self.at + len(word))
        return int(word)

    def take_end(self):
        """Take nothing more: the line ends here."""
        if self.at < len(self.line):
            self.refuse()


def _word_at(line, at):
    """The longest word that begins here; a sign that begins none stands for itself."""
    if at == len(line):
        return ""
    if line[at] in LETTERS:
        return _run_of(line, at, SIGNS)
    if line[at] in DIGITS:
        return _run_of(line, at, DIGITS)
    if line[at:at + 2] in PAIRS:
        return line[at:at + 2]
    return line[at]


def _run_of(line, at, signs):
    end = at
    while end < len(line) and line[end] in signs:
        end = end + 1
    return line[at:end]
