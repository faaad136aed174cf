"""Machines: the stack of a house, event by event."""

from nestdeep.errors import InvalidChoice
from nestdeep.frames import check_sizes, size_of
from nestdeep.functions import united
from nestdeep.steps import (
    behind_statement, entry_behind, events_of, instance_called, is_at_end, moment_of, new_entry,
)


def _has_words_only(value):
    """Whether this is a tuple of strings; what is none must not be compared with an event."""
    return isinstance(value, tuple) and all([isinstance(word, str) for word in value])


class Machine:
    """The stack of a house, at first with one call of the task."""

    def __init__(self, house):
        self.house = house
        # A segment is a tuple (interrupt, entries); what entries are tells nestdeep.steps.
        self._segments = [(None, [new_entry((house.task, ()), ((), house.shut))])]
        self._events = []
        self._look()

    def _look(self):
        """Keep what the present moment is."""
        self.ended = not self._segments
        self.line, self.shut = ((), ()) if self.ended else moment_of(self._segments[-1][1][-1])

    def stack(self):
        """The list of the segments, the task's first."""
        return [(interrupt, tuple([entry[0] for entry in entries])) for interrupt, entries in self._segments]

    def depth(self, sizes):
        """The size of the present line."""
        check_sizes(self.house.program.frames(), sizes)
        return size_of(self.line, sizes)

    def _can_come(self, interrupt):
        standing = [segment for segment in self._segments if segment[0] == interrupt]
        return interrupt not in self.shut and len(standing) < self.house.handler(interrupt)[1]

    def possible(self):
        """The list of the events that are possible now."""
        if self.ended:
            return []
        own = events_of(self.house.program, self._segments[-1][1][-1])
        return own + [("come", interrupt) for interrupt in self.house if self._can_come(interrupt)]

    def do(self, event):
        """Do an event; the line of the moment behind it."""
        if not _has_words_only(event) or event not in self.possible():
            raise InvalidChoice(event)
        if event[0] == "come":
            self._come(event[1])
        else:
            self._go_on(event)
        self._events.append(event)
        self._look()
        return self.line

    def _come(self, interrupt):
        function, _, shut = self.house.handler(interrupt)
        below = self.line, united(self.shut, shut)
        self._segments.append((interrupt, [new_entry((function, ()), below)]))

    def _go_on(self, event):
        program = self.house.program
        entries = self._segments[-1][1]
        instance = instance_called(program, entries[-1][0])
        if instance is not None:
            entries.append(new_entry(instance, (self.line, self.shut)))
        elif not is_at_end(program, entries[-1][0]):
            entries[-1] = entry_behind(program, entries[-1], event)
        elif len(entries) == 1:
            self._segments.pop()
        else:
            entries.pop()
            entries[-1] = behind_statement(entries[-1])

    def events(self):
        """The list of the events done."""
        return list(self._events)

    def clone(self):
        """An equal machine with these events, which goes on by itself."""
        twin = Machine(self.house)
        twin._segments = [(interrupt, list(entries)) for interrupt, entries in self._segments]
        twin._events = list(self._events)
        twin._look()
        return twin

    def __len__(self):
        return len(self._segments)

    def __eq__(self, other):
        return isinstance(other, Machine) and self.house == other.house and self._segments == other._segments

    def __repr__(self):
        return f"Machine({self.house.task!r}, {len(self._segments)})"
