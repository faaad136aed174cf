"""Names, statements and bodies: their shapes and their places."""

from nestdeep.errors import InvalidBody
from nestdeep.values import is_count

RESERVED = (
    "call", "do", "either", "else", "end", "endless", "form", "frame", "function", "handler",
    "house", "kind", "limit", "loop", "most", "now", "or", "returns", "room", "shut", "size",
    "stop", "take", "task", "times",
)
# The same words, to be looked up at once.
IS_RESERVED = {
    "call": True, "do": True, "either": True, "else": True, "end": True, "endless": True, "form": True,
    "frame": True, "function": True, "handler": True, "house": True, "kind": True, "limit": True, "loop": True,
    "most": True, "now": True, "or": True, "returns": True, "room": True, "shut": True, "size": True,
    "stop": True, "take": True, "task": True, "times": True,
}
LONGEST_NAME = 8
MOST_PARAMS = 2
MOST_IN_BODY = 12
MOST_BLOCKS = 4
MOST_ROUNDS = 10 ** 12


def is_name(value):
    """Whether this is a name: one to eight letters a to z, no reserved word."""
    if not isinstance(value, str) or len(value) > LONGEST_NAME or value in IS_RESERVED:
        return False
    return value.isalpha() and value.islower() and value.isascii()


def are_names(value):
    """Whether this is a tuple of names, in any order."""
    if not isinstance(value, tuple):
        return False
    for name in value:
        if not is_name(name):
            return False
    return True


def is_name_set(value):
    """Whether this is a sorted tuple of different names."""
    return are_names(value) and all([value[at] < value[at + 1] for at in range(len(value) - 1)])


def united(names, more):
    """The sorted tuple of the names in either tuple, each once."""
    return tuple(sorted(set(names) | set(more)))


def are_args(value):
    """Whether this is a tuple of at most as many names as a function can have parameters."""
    return are_names(value) and len(value) <= MOST_PARAMS


def is_block(value):
    """Whether this can be a body, whatever its items are."""
    return isinstance(value, tuple) and len(value) <= MOST_IN_BODY


def _is_take(statement):
    return len(statement) == 3 and is_count(statement[1], 1) and is_name(statement[2])


def _is_shut(statement):
    return len(statement) == 2 and is_name_set(statement[1]) and statement[1] != ()


def _is_room(statement):
    return len(statement) == 2 and is_block(statement[1])


def _is_call(statement):
    return len(statement) == 3 and is_name(statement[1]) and are_args(statement[2])


def _is_do(statement):
    return len(statement) == 2 and is_name(statement[1])


def _is_either(statement):
    return len(statement) == 3 and is_block(statement[1]) and is_block(statement[2])


def _is_loop(statement):
    if len(statement) != 3 or not is_block(statement[2]):
        return False
    rounds = statement[1]
    return rounds is None or (is_count(rounds, 1) and rounds <= MOST_ROUNDS)


def _is_stop(statement):
    return len(statement) == 1


SHAPES = {
    "take": _is_take, "shut": _is_shut, "room": _is_room, "call": _is_call, "do": _is_do,
    "either": _is_either, "loop": _is_loop, "stop": _is_stop,
}


# Behind how many items of a statement its bodies stand.
FIRST_BODY = {"room": 1, "either": 1, "loop": 2}


def _has_shape(value):
    """Whether this is a statement, whatever stands in its bodies."""
    if not isinstance(value, tuple) or not value:
        return False
    word = value[0]
    if not isinstance(word, str) or word not in SHAPES:
        return False
    shape = SHAPES[word]
    return shape(value)


def bodies_of(statement):
    """The tuple of the bodies in a statement."""
    first = FIRST_BODY.get(statement[0])
    return () if first is None else statement[first:]


def _gather(body, before, blocks, rows):
    """Check what stands in so many blocks, behind the place before, and put it into rows."""
    for at, statement in enumerate(body):
        place = (*before, at)
        if not _has_shape(statement):
            raise InvalidBody(place)
        rows.append((place, statement))
        inner = bodies_of(statement)
        if inner and blocks == MOST_BLOCKS:
            raise InvalidBody(place)
        for number, block in enumerate(inner):
            _gather(block, (*place, number), blocks + 1, rows)


def statements(body):
    """The list of tuples (place, statement), in the order of the text."""
    if not is_block(body):
        raise InvalidBody(())
    rows = []
    _gather(body, (), 0, rows)
    return rows


def check_body(body):
    """Raise InvalidBody with the place of the first wrong statement, if there is one."""
    statements(body)
