"""A reader of the lines of programs: it knows their shapes and how deep they may stand."""

from nestdeep.errors import InvalidText
from nestdeep.functions import MOST_PARAMS, are_names, is_name
from nestdeep.values import number_in

PLAIN_WORDS = ("room", "either", "loop", "stop", "else")
WORDS_WITH_BODIES = ("room", "either", "loop")


def _function_head(words):
    return (words[1], words[2:]) if 2 <= len(words) <= MOST_PARAMS + 2 and are_names(words[1:]) else None


def _take(words):
    if len(words) != 3 or not is_name(words[2]):
        return None
    count = number_in(words[1])
    return None if count is None else ("take", count, words[2])


def _shut(words):
    return ("shut", words[1:]) if len(words) >= 2 and are_names(words[1:]) else None


def _call(words):
    head = _function_head(words)
    return None if head is None else ("call", *head)


def _do(words):
    return words if len(words) == 2 and is_name(words[1]) else None


def _loop(words):
    rounds = number_in(words[1]) if len(words) == 2 else None
    return None if rounds is None else ("loop", rounds)


SHAPES = {"function": _function_head, "take": _take, "shut": _shut, "call": _call, "do": _do, "loop": _loop}


def head_of(words):
    """What the words of a line, a tuple, begin: a statement without its bodies; None if they have no shape."""
    word = words[0]
    if len(words) == 1 and word in PLAIN_WORDS:
        return ("loop", None) if word == "loop" else (word,)
    if word not in SHAPES:
        return None
    shape = SHAPES[word]
    return shape(words)


class Block:
    """A function or a statement with bodies, of which lines are still to come."""

    def __init__(self, head):
        self.head = head
        self.rows = []
        self.wants_else = head == ("either",)

    def begin_else(self):
        """The first body of an either has ended."""
        self.head = (*self.head, tuple(self.rows))
        self.rows = []
        self.wants_else = False

    def whole(self):
        """The function or the statement, with what was read of it."""
        return (*self.head, tuple(self.rows))


class Reader:
    """Reads lines one after another; the block that is k deep is the k-th of its open blocks."""

    def __init__(self):
        self.found = []
        self.blocks = []

    def read(self, row, number):
        """Read a line, which has this number."""
        plain = row.lstrip(" ")
        spaces = len(row) - len(plain)
        words = tuple(plain.split(" "))
        head = head_of(words)
        if head is None or spaces & 1 or (spaces == 0) != (words[0] == "function"):
            raise InvalidText(number)
        if words[0] == "else":
            self._read_else(spaces // 2, number)
            return
        self._close(spaces // 2, number)
        if len(self.blocks) != spaces // 2:
            raise InvalidText(number)
        if words[0] == "function" or words[0] in WORDS_WITH_BODIES:
            self.blocks.append(Block(head))
        else:
            self.blocks[-1].rows.append(head)

    def _read_else(self, depth, number):
        self._close(depth + 1, number)
        if len(self.blocks) != depth + 1 or not self.blocks[-1].wants_else:
            raise InvalidText(number)
        self.blocks[-1].begin_else()

    def _close(self, depth, number):
        """End all blocks that are so deep or deeper, at the line that has this number."""
        while len(self.blocks) > depth:
            block = self.blocks.pop()
            if block.wants_else:
                raise InvalidText(number)
            rows = self.blocks[-1].rows if self.blocks else self.found
            rows.append(block.whole())

    def finish(self, number):
        """The list of the functions read, if the line behind the last one has this number."""
        self._close(0, number)
        return self.found
