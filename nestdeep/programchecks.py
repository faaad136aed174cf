"""What makes a list of functions a program: the checks, in the order of the document."""

from nestdeep.errors import InvalidBody, InvalidProgram
from nestdeep.functions import are_args, check_body, is_name, statements
from nestdeep.values import is_list, is_tuple_of

MOST_STATEMENTS = 60
MOST_FRAMES = 6
MOST_INTERRUPTS = 5


def frames_of(body):
    """The frames that a body takes, each once, sorted."""
    return sorted(set([statement[2] for _, statement in statements(body) if statement[0] == "take"]))


def interrupts_of(body):
    """The interrupts that a body shuts, each once, sorted."""
    shuts = [statement[1] for _, statement in statements(body) if statement[0] == "shut"]
    return sorted(set([interrupt for shut in shuts for interrupt in shut]))


def _check_head(function, position, earlier):
    """Check the kind of an item, its name and its parameters; earlier are the names ahead of it."""
    if not is_tuple_of(function, 3):
        raise InvalidProgram("function", str(position))
    name, params, _ = function
    if not is_name(name):
        raise InvalidProgram("name", str(position))
    if name in earlier:
        raise InvalidProgram("repeated", name)
    if not are_args(params) or len(set(params)) < len(params):
        raise InvalidProgram("params", name)


def check_heads(functions, most):
    """Check that this is a list of one to so many functions, but for what stands in their bodies."""
    if not is_list(functions) or not 1 <= len(functions) <= most:
        raise InvalidProgram("functions", "")
    names = []
    for position, function in enumerate(functions):
        _check_head(function, position, names)
        names.append(function[0])


def _check_body_of(function, params_of):
    name, params, body = function
    for param in params:
        if param in params_of:
            raise InvalidProgram("parameter", name)
    try:
        check_body(body)
    except InvalidBody as error:
        raise InvalidProgram("body", name) from error
    if len(statements(body)) > MOST_STATEMENTS:
        raise InvalidProgram("statements", name)


def _check_call(statement, name, params_of):
    """Check a call in the function of this name."""
    called, args = statement[1], statement[2]
    if called not in params_of:
        raise InvalidProgram("call", name)
    if len(args) != len(params_of[called]):
        raise InvalidProgram("args", name)
    for arg in args:
        if arg not in params_of[name] and params_of.get(arg) != ():
            raise InvalidProgram("args", name)


def _check_calls(function, params_of):
    name, params, body = function
    for _, statement in statements(body):
        if statement[0] == "call":
            _check_call(statement, name, params_of)
        if statement[0] == "do" and statement[1] not in params:
            raise InvalidProgram("do", name)


def _check_numbers(functions):
    """Check how many frames and interrupts occur in all functions together."""
    bodies = [body for _, _, body in functions]
    frames = set([frame for body in bodies for frame in frames_of(body)])
    if len(frames) > MOST_FRAMES:
        raise InvalidProgram("frames", "")
    interrupts = set([interrupt for body in bodies for interrupt in interrupts_of(body)])
    if len(interrupts) > MOST_INTERRUPTS:
        raise InvalidProgram("interrupts", "")


def check_program(functions, most):
    """Raise InvalidProgram unless these are the functions of a program, at most so many."""
    check_heads(functions, most)
    params_of = {name: params for name, params, _ in functions}
    for function in functions:
        _check_body_of(function, params_of)
    for function in functions:
        _check_calls(function, params_of)
    _check_numbers(functions)
