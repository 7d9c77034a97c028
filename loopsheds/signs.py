"""The words of the text of a formula."""

from loopsheds.errors import BadText

LETTERS = "abcdefghijklmnopqrstuvwxyz"
DIGITS = "0123456789"
OPERATORS = ("=", "!=", "<", "<=", ">", ">=")
RESERVED = ("all", "some", "not", "and", "or")
WORD = "word"
NUMBER = "number"
SIGN = "sign"


def words_of(text):
    """The words of a text, each with its kind and its column."""
    found = []
    at = 0
    while at < len(text):
        if text[at] == " ":
            at = at + 1
            continue
        kind, end = _word_at(text, at)
        found.append((text[at:end], kind, at + 1))
        at = end
    return found


def is_word_name(word):
    """Whether a word of letters can be a name."""
    return len(word) <= 8 and word not in RESERVED


def _word_at(text, at):
    """The kind of the word that begins here, and the place behind it."""
    if text[at] in LETTERS:
        return WORD, _end_of_run(text, at, LETTERS)
    if text[at] in DIGITS:
        return NUMBER, _end_of_run(text, at, DIGITS)
    if text[at:at + 2] in OPERATORS and len(text[at:at + 2]) == 2:
        return SIGN, at + 2
    if text[at] in "=<>:()+-":
        return SIGN, at + 1
    raise BadText(1, at + 1)


def _end_of_run(text, at, signs):
    end = at
    while end < len(text) and text[end] in signs:
        end = end + 1
    return end
