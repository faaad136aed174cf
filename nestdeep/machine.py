"""Machines: the stack of a house, event by event."""

from nestdeep.errors import InvalidChoice
from nestdeep.frames import check_sizes, size_of
from nestdeep.functions import united
from nestdeep.nodes import BODY_END
from nestdeep.steps import (
    CALL_WORDS, behind_statement, call_of, entry_behind, events_of, instance_called, moment_of, new_entry, next_word,
)


class Machine:
    """The stack of a house, at first with one call of the task."""

    def __init__(self, house):
        self.house = house
        # A segment is a tuple (interrupt, entries); what entries are tells nestdeep.steps.
        self._segments = [(None, [new_entry(house.program, (house.task, ()), (), house.shut)])]
        self._standing = {}
        self._events = []
        self._look()

    def _look(self):
        """Keep what the present moment is."""
        self.ended = not self._segments
        self.line, self.shut = ((), ()) if self.ended else moment_of(self._segments[-1][1][-1])

    def stack(self):
        """The list of the segments, the task's first."""
        return [(interrupt, tuple([call_of(entry) for entry in entries])) for interrupt, entries in self._segments]

    def depth(self, sizes):
        """The size of the present line."""
        check_sizes(self.house.program.frames(), sizes)
        return size_of(self.line, sizes)

    def _can_come(self, interrupt):
        if interrupt not in self.house or interrupt in self.shut:
            return False
        return self._standing.get(interrupt, 0) < self.house.handler(interrupt)[1]

    def possible(self):
        """The list of the events that are possible now."""
        if self.ended:
            return []
        own = events_of(self._segments[-1][1][-1])
        return own + [("come", interrupt) for interrupt in self.house if self._can_come(interrupt)]

    def _is_possible(self, event):
        # An event is looked at word by word: what is none must not be compared with one.
        if self.ended or not isinstance(event, tuple) or not 1 <= len(event) <= 2:
            return False
        if not isinstance(event[0], str):
            return False
        if len(event) == 2:
            return event[0] == "come" and self._can_come(event[1])
        return event in events_of(self._segments[-1][1][-1])

    def do(self, event):
        """Do an event; the line of the moment behind it."""
        if not self._is_possible(event):
            raise InvalidChoice(event)
        if len(event) == 2:
            self._come(event[1])
        else:
            self._go_on(event)
        self._events.append(event)
        self._look()
        return self.line

    def _come(self, interrupt):
        function, _, shut = self.house.handler(interrupt)
        entry = new_entry(self.house.program, (function, ()), self.line, united(self.shut, shut))
        self._segments.append((interrupt, [entry]))
        self._standing[interrupt] = self._standing.get(interrupt, 0) + 1

    def _go_on(self, event):
        entries = self._segments[-1][1]
        word = next_word(entries[-1])
        if word in CALL_WORDS:
            instance = instance_called(self.house.program, entries[-1])
            entries.append(new_entry(self.house.program, instance, self.line, self.shut))
        elif word != BODY_END:
            entries[-1] = entry_behind(entries[-1], event)
        elif len(entries) > 1:
            entries.pop()
            entries[-1] = behind_statement(entries[-1])
        else:
            self._end_segment()

    def _end_segment(self):
        interrupt, _ = self._segments.pop()
        if interrupt is not None:
            self._standing[interrupt] -= 1

    def events(self):
        """The list of the events done."""
        return list(self._events)

    def clone(self):
        """An equal machine with these events, which goes on by itself."""
        twin = Machine(self.house)
        twin._segments = [(interrupt, list(entries)) for interrupt, entries in self._segments]
        twin._standing = dict(self._standing)
        twin._events = list(self._events)
        twin._look()
        return twin

    def __len__(self):
        return len(self._segments)

    def __eq__(self, other):
        return isinstance(other, Machine) and self.house == other.house and self._segments == other._segments

    def __repr__(self):
        return f"Machine({self.house.task!r}, {len(self._segments)})"
