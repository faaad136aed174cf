"""What makes a list of functions a program: the checks, in the order of the document."""

from nestdeep.errors import InvalidBody, InvalidProgram
from nestdeep.functions import are_args, is_name, statements
from nestdeep.values import is_list, is_tuple_of

MOST_STATEMENTS = 60
MOST_FRAMES = 6
MOST_INTERRUPTS = 5


def _check_head(function, position, earlier):
    """Check the kind of an item, its name and its parameters; earlier are the names ahead of it."""
    if not is_tuple_of(function, 3):
        raise InvalidProgram("function", str(position))
    name, params, _ = function
    if not is_name(name):
        raise InvalidProgram("name", str(position))
    if name in earlier:
        raise InvalidProgram("repeated", name)
    if not are_args(params) or len(set(params)) < len(params):
        raise InvalidProgram("params", name)


def check_heads(functions, most):
    """Check that this is a list of one to so many functions, but for what stands in their bodies."""
    if not is_list(functions) or not 1 <= len(functions) <= most:
        raise InvalidProgram("functions", "")
    names = []
    for position, function in enumerate(functions):
        _check_head(function, position, names)
        names.append(function[0])


def _statements_of(function, params_of):
    """The list of the statements of a function, in the order of the text."""
    name, params, body = function
    for param in params:
        if param in params_of:
            raise InvalidProgram("parameter", name)
    try:
        placed = statements(body)
    except InvalidBody as error:
        raise InvalidProgram("body", name) from error
    if len(placed) > MOST_STATEMENTS:
        raise InvalidProgram("statements", name)
    return [statement for _, statement in placed]


def _check_call(statement, name, params_of):
    """Check a call in the function of this name."""
    called, args = statement[1], statement[2]
    if called not in params_of:
        raise InvalidProgram("call", name)
    if len(args) != len(params_of[called]):
        raise InvalidProgram("args", name)
    for arg in args:
        if arg not in params_of[name] and params_of.get(arg) != ():
            raise InvalidProgram("args", name)


def _check_calls(name, rows, params_of):
    for statement in rows:
        if statement[0] == "call":
            _check_call(statement, name, params_of)
        elif statement[0] == "do" and statement[1] not in params_of[name]:
            raise InvalidProgram("do", name)


def frames_of(rows):
    """The sorted list of the frames that these statements take."""
    return sorted(set([statement[2] for statement in rows if statement[0] == "take"]))


def interrupts_of(rows):
    """The sorted list of the interrupts that these statements shut."""
    return sorted(set([interrupt for statement in rows if statement[0] == "shut" for interrupt in statement[1]]))


def checked_statements(functions, most):
    """A dict from the functions of a program, at most so many, to the lists of their statements.

    Raises InvalidProgram unless these are the functions of a program.
    """
    check_heads(functions, most)
    params_of = {name: params for name, params, _ in functions}
    statements_of = {}
    for function in functions:
        statements_of[function[0]] = _statements_of(function, params_of)
    for name, rows in statements_of.items():
        _check_calls(name, rows, params_of)
    every = [statement for rows in statements_of.values() for statement in rows]
    if len(frames_of(every)) > MOST_FRAMES:
        raise InvalidProgram("frames", "")
    if len(interrupts_of(every)) > MOST_INTERRUPTS:
        raise InvalidProgram("interrupts", "")
    return statements_of
