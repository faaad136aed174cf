"""What an event makes of a call of a stack.

An ENTRY is a tuple (instance, nodes, at, taken, marks). at is the number of the next one of the
NODES of the function's body (nestdeep.nodes). TAKEN is a tuple of the line and the shut of the
call, and of the line and the shut of all that stands up to this call, its segment's own shut
included. marks has one item for each body that is being performed, from outside: () in an either,
what was taken at the beginning of a room, the number of rounds begun of a loop. If the next
statement is a loop that has begun rounds, their number is one more mark.
"""

from nestdeep.frames import with_more
from nestdeep.functions import united

CALL_WORDS = ("call", "do")
GO = ("go",)
LEFT = ("left",)
RIGHT = ("right",)
ROUND = ("round",)
LEAVE = ("leave",)


def new_entry(program, instance, line, shut):
    """A call of an instance that begins upon a stack with this line and this shut."""
    nodes, first = program.nodes(instance[0])
    return instance, nodes, first, ((), (), line, shut), ()


def moment_of(entry):
    """The line and the shut of the stack whose last call this is."""
    return entry[3][2:]


def call_of(entry):
    """The call as the document tells it."""
    instance, nodes, at, taken, _ = entry
    return instance, nodes[at][1], taken[0], taken[1]


def next_word(entry):
    """The word of the next node of a call."""
    return entry[1][entry[2]][0]


def instance_called(program, entry):
    """The instance that the next statement, a call, calls."""
    (function, args), nodes, at, _, _ = entry
    statement = nodes[at][2]
    passed = {param: arg for param, arg in zip(program.params(function), args)}
    if statement[0] == "do":
        return passed[statement[1]], ()
    return statement[1], tuple([passed.get(arg, arg) for arg in statement[2]])


def _rounds_begun(place, marks):
    """How many rounds of the next statement, a loop, were begun since it was come to."""
    depth = len(place) // 2
    return marks[depth] if len(marks) > depth else 0


def events_of(entry):
    """The list of the events that are possible for the call that runs."""
    _, nodes, at, _, marks = entry
    word, place, statement, _, _ = nodes[at]
    if word == "stop":
        return []
    if word == "either":
        return [LEFT, RIGHT]
    if word != "loop":
        return [GO]
    begins = statement[1] is None or _rounds_begun(place, marks) < statement[1]
    return [ROUND, LEAVE] if begins else [LEAVE]


def behind_statement(entry):
    """The entry when its next statement, a call, is done."""
    instance, nodes, at, taken, marks = entry
    return instance, nodes, nodes[at][3], taken, marks


def _with_taken(entry, node):
    instance, nodes, _, (line, shut, total, closed), marks = entry
    _, count, frame = node[2]
    taken = (with_more(line, count, frame), shut, with_more(total, count, frame), closed)
    return instance, nodes, node[3], taken, marks


def _with_shut(entry, node):
    instance, nodes, _, (line, shut, total, closed), marks = entry
    more = node[2][1]
    return instance, nodes, node[3], (line, united(shut, more), total, united(closed, more)), marks


def _in_room(entry, node):
    instance, nodes, _, taken, marks = entry
    return instance, nodes, node[4][0], taken, (*marks, taken)


def _behind_room(entry, node):
    instance, nodes, _, _, marks = entry
    return instance, nodes, node[3], marks[-1], marks[:-1]


def _behind_either(entry, node):
    instance, nodes, _, taken, marks = entry
    return instance, nodes, node[3], taken, marks[:-1]


def _behind_round(entry, node):
    instance, nodes, _, taken, marks = entry
    return instance, nodes, node[3], taken, marks


GOING = {
    "take": _with_taken, "shut": _with_shut, "room": _in_room, "room end": _behind_room,
    "either end": _behind_either, "loop end": _behind_round,
}


def entry_behind(entry, event):
    """The entry behind an event that is possible for it, and by which no call begins or ends."""
    instance, nodes, at, taken, marks = entry
    node = nodes[at]
    word, place, _, behind, inner = node
    if word == "loop":
        around = marks[:len(place) // 2]
        if event == LEAVE:
            return instance, nodes, behind, taken, around
        return instance, nodes, inner[0], taken, (*around, _rounds_begun(place, marks) + 1)
    if word == "either":
        return instance, nodes, inner[0] if event == LEFT else inner[1], taken, (*marks, ())
    going = GOING[word]
    return going(entry, node)
