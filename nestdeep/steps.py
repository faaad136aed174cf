"""What an event makes of a call of a stack.

An ENTRY is a tuple (call, marks, below). The call is as the document tells it. marks has one
item for each body that is being performed, from outside: () in an either, the line and the shut
of the call at the beginning of a room, the number of rounds begun of a loop. If the next
statement is a loop that has begun rounds, their number is one more mark. below is the line and
the shut of all that stands below the call, its own segment's shut included.
"""

from nestdeep.frames import summed
from nestdeep.functions import bodies_of, united

GO = ("go",)


def new_entry(instance, below):
    """A call of an instance that begins."""
    return (instance, (0,), (), ()), (), below


def moment_of(entry):
    """The line and the shut of the stack whose last call this is."""
    (_, _, line, shut), _, (line_below, shut_below) = entry
    return summed([line_below, line]), united(shut_below, shut)


def _block_at(body, place):
    """The body, of a function or in a statement of it, in which a place lies."""
    block = body
    for at in range(0, len(place) - 1, 2):
        block = bodies_of(block[place[at]])[place[at + 1]]
    return block


def statement_at(program, call):
    """The next statement of a call, None at the end of a body."""
    (function, _), place, _, _ = call
    block = _block_at(program.body(function), place)
    return block[place[-1]] if place[-1] < len(block) else None


def is_at_end(program, call):
    """Whether a call is at the end of its function's body."""
    return len(call[1]) == 1 and statement_at(program, call) is None


def instance_called(program, call):
    """The instance that the next statement calls, None if this is no call."""
    statement = statement_at(program, call)
    if statement is None or statement[0] not in ("call", "do"):
        return None
    function, args = call[0]
    passed = dict(zip(program.params(function), args))
    if statement[0] == "do":
        return passed[statement[1]], ()
    return statement[1], tuple([passed.get(arg, arg) for arg in statement[2]])


def _rounds_begun(call, marks):
    """How many rounds of the next statement, a loop, were begun since it was come to."""
    return marks[-1] if len(marks) > len(call[1]) // 2 else 0


def events_of(program, entry):
    """The list of the events that are possible for the call that runs."""
    call, marks, _ = entry
    statement = statement_at(program, call)
    word = "end" if statement is None else statement[0]
    if word == "stop":
        return []
    if word == "either":
        return [("left",), ("right",)]
    if word == "loop":
        begins = statement[1] is None or _rounds_begun(call, marks) < statement[1]
        return [("round",), ("leave",)] if begins else [("leave",)]
    return [GO]


def _behind(place):
    return (*place[:-1], place[-1] + 1)


def behind_statement(entry):
    """The entry when its next statement is done."""
    (instance, place, line, shut), marks, below = entry
    return (instance, _behind(place), line, shut), marks[:len(place) // 2], below


def _in_body(entry, number, mark):
    """The entry when a body of its next statement begins."""
    (instance, place, line, shut), marks, below = entry
    return (instance, (*place, number, 0), line, shut), (*marks[:len(place) // 2], mark), below


def _behind_body(program, entry):
    """The entry behind the end of a body of a statement."""
    (instance, place, line, shut), marks, below = entry
    outer = place[:-2]
    word = statement_at(program, (instance, outer, line, shut))[0]
    if word == "loop":
        return (instance, outer, line, shut), marks, below
    if word == "room":
        line, shut = marks[-1]
    return (instance, _behind(outer), line, shut), marks[:-1], below


def _gone(program, entry):
    """The entry behind ("go",), where no call begins or ends."""
    call, marks, below = entry
    statement = statement_at(program, call)
    if statement is None:
        return _behind_body(program, entry)
    instance, place, line, shut = call
    if statement[0] == "room":
        return _in_body(entry, 0, (line, shut))
    if statement[0] == "take":
        line = summed([line, ((statement[2], statement[1]),)])
    else:
        shut = united(shut, statement[1])
    return (instance, _behind(place), line, shut), marks, below


def entry_behind(program, entry, event):
    """The entry behind an event that is possible for it, and by which no call begins or ends."""
    word = event[0]
    if word == "left":
        return _in_body(entry, 0, ())
    if word == "right":
        return _in_body(entry, 1, ())
    if word == "round":
        return _in_body(entry, 0, _rounds_begun(entry[0], entry[1]) + 1)
    if word == "leave":
        return behind_statement(entry)
    return _gone(program, entry)
