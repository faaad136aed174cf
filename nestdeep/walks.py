"""What is reached on a way through a body that is known to be one.

A WALK is a tuple (line, shut, tag, passed, following): the term that the way reaches, but passed
lists the callbacks that have returned in the sequence in which they did, and the statement that
comes next, None behind the last one. Of a value that is no way the walk is None.
"""

from nestdeep.callbacks import callback_of
from nestdeep.frames import multiplied, summed
from nestdeep.functions import bodies_of, united
from nestdeep.values import is_count, is_tuple_of, is_whole_number


def _joined(first, second):
    """The parts of a walk (line, shut, passed) of two of them in turn."""
    return summed([first[0], second[0]]), united(first[1], second[1]), [*first[2], *second[2]]


def _is_passed(statement, step):
    """Whether a statement without bodies is passed by this step."""
    return step is None and statement[0] != "stop"


def _alone(statement):
    """The parts of a statement without bodies that is passed."""
    if statement[0] == "take":
        return ((statement[2], statement[1]),), (), []
    if statement[0] == "shut":
        return (), statement[1], []
    return (), (), [callback_of(statement)]


def _through(block, way):
    """The parts of a way to the end of a body, None if it is none."""
    found = walk(block, way)
    return (found[0], found[1], found[3]) if found is not None and found[2] == "end" else None


def _side(statement, value):
    """The body and the way of a choice of an either, None if this is no choice."""
    if not is_tuple_of(value, 2) or not is_whole_number(value[0]) or not 0 <= value[0] <= 1:
        return None
    return bodies_of(statement)[value[0]], value[1]


def _rounds(statement, pairs, ahead):
    """The parts of equal rounds of a loop, with so many less than it has; None if they are none."""
    parts, many = ((), (), []), 0
    if not isinstance(pairs, tuple):
        return None
    for pair in pairs:
        if not is_tuple_of(pair, 2) or not is_count(pair[0], 1):
            return None
        found = _through(statement[2], pair[1])
        if found is None:
            return None
        parts = _joined(parts, (multiplied(found[0], pair[0]), found[1], found[2]))
        many += pair[0]
    return parts if statement[1] is None or many + ahead <= statement[1] else None


def _passing(statement, step):
    """The parts of a statement that is passed, None if this is no step that passes it."""
    word = statement[0]
    if word == "room":
        found = _through(statement[1], step)
        return None if found is None else ((), (), found[2])
    if word == "either":
        side = _side(statement, step)
        return None if side is None else _through(side[0], side[1])
    if word == "loop":
        return _rounds(statement, step, 0)
    return _alone(statement) if _is_passed(statement, step) else None


def _within(statement, stop):
    """The walk to a place within a statement, None if this does not stop within it."""
    word = statement[0]
    if word == "room":
        return _inside(statement[1], stop)
    if word == "either":
        side = _side(statement, stop)
        return None if side is None else _inside(side[0], side[1])
    if word != "loop" or not is_tuple_of(stop, 2):
        return None
    parts = _rounds(statement, stop[0], 1)
    found = _inside(statement[2], stop[1])
    return None if parts is None or found is None else _behind(parts, found)


def _inside(block, way):
    """The walk of a way that does not go to the end of a body, None if it is none."""
    found = walk(block, way)
    return None if found is None or found[2] == "end" else found


def _behind(parts, found):
    """The walk behind parts that come ahead of it."""
    line, shut, passed = _joined(parts, (found[0], found[1], found[3]))
    return line, shut, found[2], passed, found[4]


def _stopped(following, stop):
    """The walk from behind the steps of a way to its stop, None if it is no stop there."""
    if not isinstance(stop, str):
        return None if following is None else _within(following, stop)
    if stop == "now":
        return (), (), "now", [], following
    if stop == "end" and following is None:
        return (), (), "end", [], None
    if stop == "call" and following is not None and callback_of(following) is not None:
        return (), (), callback_of(following), [], following
    return None


def walk(block, way):
    """The walk of a way through a body, None if this is none."""
    if not is_tuple_of(way, 2) or not isinstance(way[0], tuple) or len(way[0]) > len(block):
        return None
    steps, stop = way
    parts = ((), (), [])
    for statement, step in zip(block, steps):
        found = _passing(statement, step)
        if found is None:
            return None
        parts = _joined(parts, found)
    found = _stopped(block[len(steps)] if len(steps) < len(block) else None, stop)
    return None if found is None else _behind(parts, found)
