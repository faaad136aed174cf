"""Callbacks, which are names or instances, and their order."""

from nestdeep.functions import are_args, is_name
from nestdeep.values import is_tuple_of


def is_instance(value):
    """Whether this is a tuple of a name and at most two names that are passed."""
    return is_tuple_of(value, 2) and is_name(value[0]) and are_args(value[1])


def is_callback(value):
    """Whether this is a name or an instance."""
    return is_name(value) or is_instance(value)


def callback_of(statement):
    """The callback that a statement calls, None if it calls none."""
    if statement[0] == "do":
        return statement[1]
    return statement[1:] if statement[0] == "call" else None


def callback_key(callback):
    """What callbacks are sorted by: names, then instances."""
    return (0, callback) if isinstance(callback, str) else (1, callback)


def set_key(callbacks):
    """What tuples of callbacks are compared by."""
    return tuple([callback_key(callback) for callback in callbacks])


def in_callback_order(callbacks):
    """The tuple of these callbacks, each once, in callback order."""
    return tuple(sorted({callback: True for callback in callbacks}, key=callback_key))


def is_callback_set(value):
    """Whether this is a tuple of different callbacks in callback order."""
    if not isinstance(value, tuple) or not all([is_callback(callback) for callback in value]):
        return False
    keys = set_key(value)
    return all([keys[at] < keys[at + 1] for at in range(len(keys) - 1)])


def is_part(small, large):
    """Whether the items of a tuple are all among those of another one."""
    return all([item in large for item in small])


def sets_in_order(sets):
    """The least ones of these tuples of callbacks, each once, shorter ones first."""
    least = []
    for callbacks in sorted(sets, key=lambda row: (len(row), set_key(row))):
        if not [other for other in least if is_part(other, callbacks)]:
            least.append(callbacks)
    return tuple(least)


def callbacks_in(rows):
    """The tuple of the callbacks that some statements call, in callback order."""
    return in_callback_order([callback_of(statement) for statement in rows if statement[0] in ("do", "call")])
