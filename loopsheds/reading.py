"""Texts of nests, read."""

from loopsheds.errors import BadText
from loopsheds.nests import Nest
from loopsheds.words import Words

COMPARISONS = ("<=", "<", ">=", ">", "==")
HEADS = ("given", "room", "keep")


def read_nest(text):
    """The nest of a text."""
    if not isinstance(text, str):
        raise BadText(0, 0)
    lines = _lines_of(text)
    if not lines:
        raise BadText(1, 1)
    sizes = _read_sizes(lines[0])
    head = Head()
    at = 1
    while at < len(lines) and lines[at].indent == 0 and lines[at].next_word in HEADS:
        head.read(lines[at])
        at = at + 1
    body = _read_body(lines[at:])
    return Nest(sizes, tuple(head.given), head.room_pairs, tuple(head.kept), body)


def _lines_of(text):
    """The lines that are not left out."""
    found = []
    for at, line in enumerate(text.split("\n")):
        words = Words(line, at + 1)
        if words.next_word not in ("", "#"):
            found.append(words)
    return found


def _read_sizes(words):
    """The names of the sizes."""
    if words.indent > 0:
        words.refuse()
    words.take("sizes")
    return tuple(_read_names(words))


def _read_names(words):
    """One or more names, up to the end of the line."""
    found = [words.take_name()]
    while words.has(","):
        found.append(words.take_name())
    words.take_end()
    return found


class Head:
    """What the lines between the sizes and the body say."""

    def __init__(self):
        self.given = []
        self.room_pairs = {}
        self.kept = []

    def read(self, words):
        """Read one of these lines."""
        if words.has("given"):
            self.given.extend(_read_differences(words))
        elif words.has("keep"):
            self.kept.extend(_read_names(words))
        else:
            words.take("room")
            array = words.take_name()
            self.room_pairs[array] = _read_room(words)
            words.take_end()


def _read_room(words):
    """The pairs of atoms of a room."""
    words.take("[")
    if words.has("]"):
        return ()
    found = [_read_pair(words)]
    while words.has(","):
        found.append(_read_pair(words))
    words.take("]")
    return tuple(found)


def _read_pair(words):
    low = _read_atom(words)
    words.take("..")
    return (low, _read_atom(words))


def _read_atom(words):
    """A name, a name plus or minus a number, or a number."""
    if words.has("-"):
        return ("0", -words.take_number())
    if words.next_word.isdigit():
        return ("0", words.take_number())
    name = words.take_name()
    if words.has("+"):
        return (name, words.take_number())
    if words.has("-"):
        return (name, -words.take_number())
    return (name, 0)


def _read_atoms(words):
    """One or more atoms."""
    found = [_read_atom(words)]
    while words.has(","):
        found.append(_read_atom(words))
    return tuple(found)


def _read_differences(words):
    """The differences of one or more comparisons, up to the end of the line."""
    found = _read_comparison(words)
    while words.has("and"):
        found.extend(_read_comparison(words))
    words.take_end()
    return found


def _read_comparison(words):
    """The differences that say the same as a comparison."""
    one = _read_atom(words)
    sign = words.take_one(COMPARISONS)
    other = _read_atom(words)
    if sign == "<=":
        return [_at_most(one, other, 0)]
    if sign == "<":
        return [_at_most(one, other, 1)]
    if sign == ">=":
        return [_at_most(other, one, 0)]
    if sign == ">":
        return [_at_most(other, one, 1)]
    return [_at_most(one, other, 0), _at_most(other, one, 0)]


def _at_most(one, other, gap):
    """The difference: one atom plus the gap is at most the other one."""
    return (one[0], other[0], other[1] - one[1] - gap)


def _read_body(lines):
    """The nodes of the lines of a body.

    The heads and children that are still open are kept here, so that lines may be indented as far as they like.
    """
    open_heads = []
    children = [[]]
    is_head = False
    for words in lines:
        depth = words.indent // 2
        if words.indent != 2 * depth or depth > len(open_heads) or (is_head and depth < len(open_heads)):
            words.refuse()
        _close(open_heads, children, depth)
        head, is_head = _read_node(words)
        if is_head:
            open_heads.append(head)
            children.append([])
        else:
            children[-1].append(head)
    if is_head:
        raise BadText(lines[-1].line_number + 1, 1)
    _close(open_heads, children, 0)
    return tuple(children[0])


def _close(open_heads, children, depth):
    """Make nodes of the heads that are open at this depth and further in."""
    while len(open_heads) > depth:
        head = open_heads.pop()
        body = tuple(children.pop())
        children[-1].append((*head, body))


def _read_node(words):
    """What a line of a body says, and whether it is the head of a loop or a test."""
    if words.next_word in ("up", "down"):
        return _read_loop(words), True
    if words.has("when"):
        return ("test", tuple(_read_differences(words))), True
    return _read_run(words), False


def _read_loop(words):
    down = words.take_one(("up", "down")) == "down"
    counter = words.take_name()
    words.take("from")
    lows = _read_atoms(words)
    words.take("to")
    highs = _read_atoms(words)
    words.take_end()
    return ("loop", counter, lows, highs, down)


def _read_run(words):
    """A statement: label, stamp, target and reads."""
    label = words.take_name()
    stamp = _read_row(words, "(", ")")
    words.take(":")
    target = _read_access(words)
    words.take("=")
    reads = []
    if words.next_word != "":
        reads.append(_read_access(words))
        while words.has(","):
            reads.append(_read_access(words))
    words.take_end()
    return ("run", label, stamp, target, tuple(reads))


def _read_access(words):
    array = words.take_name()
    return (array, _read_row(words, "[", "]"))


def _read_row(words, start, end):
    """Atoms between two signs, perhaps none."""
    words.take(start)
    if words.has(end):
        return ()
    found = _read_atoms(words)
    words.take(end)
    return found
