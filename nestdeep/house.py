"""Houses: a program, its task, and the handlers of its interrupts."""

from nestdeep.errors import InvalidHouse, UnknownInterrupt
from nestdeep.functions import MOST_ROUNDS, is_name, is_name_set, united
from nestdeep.values import is_count, is_list, is_tuple_of

MOST_HANDLERS = 5


def is_plain_function(program, name):
    """Whether the program has a function of this name, without parameters."""
    return name in program and program.params(name) == ()


def _is_shut(value, interrupts):
    return is_name_set(value) and all([interrupt in interrupts for interrupt in value])


def _is_handler(program, value, interrupts):
    if not is_tuple_of(value, 3):
        return False
    function, times, shut = value
    if not is_plain_function(program, function) or not is_count(times, 1) or times > MOST_ROUNDS:
        return False
    return _is_shut(shut, interrupts)


def _check_house(program, task, handlers, shut):
    if not is_plain_function(program, task):
        raise InvalidHouse("task", None)
    if not isinstance(handlers, dict) or len(handlers) > MOST_HANDLERS:
        raise InvalidHouse("handlers", None)
    if not all([is_name(interrupt) for interrupt in handlers]):
        raise InvalidHouse("interrupt", None)
    interrupts = sorted(handlers)
    for interrupt in interrupts:
        if not _is_handler(program, handlers[interrupt], interrupts):
            raise InvalidHouse("handler", interrupt)
    if not _is_shut(shut, interrupts):
        raise InvalidHouse("shut", None)


class House:
    """A program with a task, what the task shuts, and at most five handlers."""

    def __init__(self, program, task, handlers=None, *, shut=()):
        table = {} if handlers is None else handlers
        _check_house(program, task, table, shut)
        self.program = program
        self.task = task
        self.shut = shut
        self._interrupts = tuple(sorted(table))
        self._table = {interrupt: table[interrupt] for interrupt in self._interrupts}
        # What nestdeep.houselines keeps for this house.
        self.kept = None

    def handlers(self):
        """A dict from the interrupts that have handlers to these."""
        return dict(self._table)

    def handler(self, interrupt):
        """The handler of an interrupt: a tuple (function, times, shut)."""
        if interrupt not in self:
            raise UnknownInterrupt(interrupt)
        return self._table[interrupt]

    def with_shut(self, interrupts, *, handler=None):
        """A house in which the task, or this handler, shuts these interrupts, too."""
        if not is_list(interrupts):
            raise InvalidHouse("shut", None)
        for interrupt in interrupts:
            self.handler(interrupt)
        table = dict(self._table)
        if handler is None:
            return House(self.program, self.task, table, shut=united(self.shut, interrupts))
        function, times, shut = self.handler(handler)
        table[handler] = (function, times, united(shut, interrupts))
        return House(self.program, self.task, table, shut=self.shut)

    def __contains__(self, interrupt):
        return isinstance(interrupt, str) and interrupt in self._table

    def __len__(self):
        return len(self._interrupts)

    def __iter__(self):
        return iter(self._interrupts)

    def __eq__(self, other):
        if not isinstance(other, House) or self.program != other.program:
            return False
        return self.task == other.task and self._table == other._table and self.shut == other.shut

    def __repr__(self):
        return f"House({self.task!r}, {list(self._interrupts)!r})"
