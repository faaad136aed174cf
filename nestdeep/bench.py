"""A bench: functions that are put and dropped, and houses of them whose lines follow."""

from nestdeep.benchnews import news_of, reach_in
from nestdeep.benchstates import (
    BenchState, sizes_of_frames, state_with_entry, state_with_program, state_without_entry,
)
from nestdeep.errors import InvalidHouse, InvalidName, NothingToUndo, UnknownFunction, UnknownName
from nestdeep.frames import check_limit
from nestdeep.functions import is_name
from nestdeep.house import House
from nestdeep.mixes import greatest
from nestdeep.programchecks import check_heads
from nestdeep.programs import Program
from nestdeep.values import is_list


class Bench:
    """The functions of a program, or none, and entries: houses with sizes and limits."""

    def __init__(self):
        self._now = BenchState(None, {}, {}, {})
        # What it had ahead of each deed that was not taken back.
        self._past = []

    def _go_on(self, state):
        self._past.append(self._now)
        self._now = state

    def _present_rows(self):
        """A dict from the names of the functions to these."""
        program = self._now.program
        return {} if program is None else {row[0]: row for row in program.functions()}

    def put(self, functions):
        """Put functions, in place of those with the same names; the news."""
        check_heads(functions, Program.MOST)
        rows = {**self._present_rows(), **{row[0]: row for row in functions}}
        program = Program([rows[name] for name in sorted(rows)])
        before = self._now
        self._go_on(state_with_program(before, program))
        return news_of(before, self._now, [row[0] for row in functions])

    def drop(self, names):
        """Drop functions; the news."""
        rows = self._present_rows()
        if not is_list(names):
            raise UnknownFunction(names)
        for name in names:
            self._check_function(name)
        left = [rows[name] for name in sorted(rows) if name not in names]
        before = self._now
        self._go_on(state_with_program(before, Program(left) if left else None))
        return news_of(before, self._now, [])

    def set_entry(self, name, house, *, sizes=None, limit=None):
        """Set an entry, in place of one with the same name; the news."""
        if not is_name(name):
            raise InvalidName(name)
        program = self._now.program
        if not isinstance(house, House) or program is None or house.program != program:
            raise InvalidHouse("program", None)
        kept = sizes_of_frames(program, sizes)
        if limit is not None:
            check_limit(limit)
        # With the bench's own program, so that what is known of it is used.
        made = House(program, house.task, house.handlers(), shut=house.shut)
        self._go_on(state_with_entry(self._now, name, (made, kept, limit)))
        return (), (), (name,)

    def drop_entry(self, name):
        """Drop an entry; the news."""
        self._check_entry(name)
        self._go_on(state_without_entry(self._now, name))
        return (), (), (name,)

    def undo(self):
        """Take back the last deed that was not taken back yet."""
        if not self._past:
            raise NothingToUndo()
        self._now = self._past.pop()

    def clone(self):
        """An equal bench with the same deeds to undo, which goes on by itself."""
        twin = Bench()
        twin._now = self._now
        twin._past = list(self._past)
        return twin

    def _check_function(self, name):
        if self._now.program is None or name not in self._now.program:
            raise UnknownFunction(name)

    def _check_entry(self, name):
        if not isinstance(name, str) or name not in self._now.entry_of_name:
            raise UnknownName(name)

    def current(self):
        """The Program of the functions, None without any."""
        return self._now.program

    def names(self):
        """The sorted list of the names of the entries."""
        return sorted(self._now.entry_of_name)

    def entry(self, name):
        """The tuple (house, sizes, limit) of an entry."""
        self._check_entry(name)
        house, sizes, limit = self._now.entry_of_name[name]
        return house, None if sizes is None else dict(sizes), limit

    def state(self, name):
        """Whether an entry is endless, open, kept or exceeded."""
        self._check_entry(name)
        house, sizes, limit = self._now.entry_of_name[name]
        lines = self._now.lines_of_name[name]
        if lines is None:
            return "endless"
        if limit is None or (sizes is None and house.program.frames()):
            return "open"
        depth, _ = greatest(lines, {} if sizes is None else sizes)
        return "kept" if depth <= limit else "exceeded"

    def form(self, function):
        """The form of a function."""
        self._check_function(function)
        return self._now.form_of_name[function]

    def reach(self, function):
        """The sorted tuple of a function and of all that use it, directly or through others."""
        self._check_function(function)
        return reach_in(self._now.program, function)

    def lines(self, name):
        """The sorted tuple of the lines of an entry, None if its house is endless."""
        self._check_entry(name)
        return self._now.lines_of_name[name]

    def __eq__(self, other):
        if not isinstance(other, Bench) or self._now.program != other._now.program:
            return False
        return self._now.entry_of_name == other._now.entry_of_name
