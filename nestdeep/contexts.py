"""Contexts of functions: what is passed to them, which handlers there are, the sizes, what is taken behind."""

from nestdeep.errors import InvalidContext, InvalidForm, TooMany, UnknownFunction
from nestdeep.formchecks import contains_any
from nestdeep.forms import Form
from nestdeep.frames import frames_in, size_of
from nestdeep.functions import is_name, is_name_set
from nestdeep.house import MOST_HANDLERS, House
from nestdeep.newnames import new_names
from nestdeep.programchecks import MOST_FRAMES
from nestdeep.programs import Program
from nestdeep.values import is_count, is_tuple_of


def is_function_form(value):
    """Whether this is a form that a function can have: its callbacks are names, its ends have taken nothing."""
    if not isinstance(value, Form) or not is_name_set(value.callbacks):
        return False
    return all([term[2] != "end" or term[:2] == ((), ()) for term in value.terms])


def check_function_form(form):
    """Raise InvalidForm for what is no function form."""
    if not is_function_form(form):
        raise InvalidForm("function", form)


def _is_passed(value):
    """Whether this tells whether a function that is passed returns, and what it takes."""
    return is_tuple_of(value, 2) and isinstance(value[0], bool) and is_count(value[1], 0)


def _are_counts_by_names(value):
    """Whether this is a tuple of pairs of a name and an integer from 1 on, sorted, no name twice."""
    if not isinstance(value, tuple):
        return False
    if not all([is_tuple_of(pair, 2) and is_name(pair[0]) and is_count(pair[1], 1) for pair in value]):
        return False
    return all([value[at][0] < value[at + 1][0] for at in range(len(value) - 1)])


def is_context(callbacks, value):
    """Whether this is a context for these callbacks."""
    if not is_tuple_of(value, 4):
        return False
    passed, handlers, sizes, behind = value
    if not is_tuple_of(passed, len(callbacks)) or not all([_is_passed(pair) for pair in passed]):
        return False
    if not _are_counts_by_names(handlers) or len(handlers) > MOST_HANDLERS:
        return False
    return _are_counts_by_names(sizes) and is_count(behind, 0)


def has_sizes(context, frames):
    """Whether a context has a size for each of these frames."""
    sizes = dict(context[2])
    return all([frame in sizes for frame in frames])


def frames_of_form(form):
    """The sorted list of the frames of a form."""
    return frames_in([term[0] for term in form.terms])


def told_depth(form, context):
    """The depth of a function form in a context that fits it."""
    passed, handlers, pairs, behind = context
    cells_of = {callback: cells for callback, (_, cells) in zip(form.callbacks, passed)}
    back = [callback for callback, (returns, _) in zip(form.callbacks, passed) if returns]
    if contains_any(form.endless, back):
        return None
    sizes = dict(pairs)
    every = sum([cells for _, cells in handlers])
    depth = every
    for line, shut, tag, returned in form.terms:
        if all([callback in back for callback in returned]):
            if tag == "end":
                above = behind + every
            else:
                above = size_of(line, sizes) + sum([cells for interrupt, cells in handlers if interrupt not in shut])
            depth = max(depth, above + cells_of.get(tag, 0))
    return depth


def depth_in(form, context):
    """The depth of a function form in a context, None if it is endless there."""
    check_function_form(form)
    if not is_context(form.callbacks, context) or not has_sizes(context, frames_of_form(form)):
        raise InvalidContext(context)
    return told_depth(form, context)


def _taking(cells, frame):
    """The statements that take so many frames."""
    return (("take", cells, frame),) if cells > 0 else ()


def _passed_body(pair, frame):
    """The body of a function that is passed, and of which this tells whether it returns, and what it takes."""
    returns, cells = pair
    return _taking(cells, frame) if returns else (*_taking(cells, frame), ("stop",))


def _check_numbers(program, many, has_frame):
    """Raise TooMany if there is no program with so many functions more, and perhaps one frame more."""
    if len(program) + many > program.MOST:
        raise TooMany("functions")
    if has_frame and len(program.frames()) + 1 > MOST_FRAMES:
        raise TooMany("frames")


def _taken_names(program, context):
    """The list of the names that nothing new can have."""
    params = [param for _, names, _ in program for param in names]
    pairs = [*context[1], *context[2]]
    return [*program.names(), *params, *program.frames(), *program.interrupts(), *[name for name, _ in pairs]]


def house_in(program, function, context):
    """The house of a function in a context, and its sizes."""
    if function not in program:
        raise UnknownFunction(function)
    params = program.params(function)
    if not is_context(sorted(params), context) or not has_sizes(context, program.frames()):
        raise InvalidContext(context)
    passed, handlers, pairs, behind = context
    taken = [*[cells for _, cells in passed], *[cells for _, cells in handlers], behind]
    many = len(params) + len(handlers) + 1
    _check_numbers(program, many, max(taken) > 0)
    frame, task, *names = new_names(_taken_names(program, context), many + 1)
    told = {param: name for param, name in zip(sorted(params), names)}
    comers = names[len(params):]
    rows = [(told[param], (), _passed_body(pair, frame)) for param, pair in zip(sorted(params), passed)]
    rows.extend([(name, (), _taking(cells, frame)) for name, (_, cells) in zip(comers, handlers)])
    rows.append((task, (), (("call", function, tuple([told[param] for param in params])), *_taking(behind, frame))))
    table = {interrupt: (name, 1, ()) for name, (interrupt, _) in zip(comers, handlers)}
    return House(Program([*program, *rows]), task, table), {**dict(pairs), frame: 1}
