"""A reader of the lines of entries: it knows with which lines the text of an entry of a program can go on."""

from nestdeep.functions import MOST_ROUNDS, is_name, is_name_set
from nestdeep.house import MOST_HANDLERS, House, is_plain_function
from nestdeep.values import number_in


def _shut_in(words):
    """What the last words of a line shut, () if there are none; None if they are wrong."""
    if not words:
        return ()
    shut = tuple(words[1:])
    return shut if words[0] == "shut" and shut and is_name_set(shut) else None


class EntryReader:
    """What was read of an entry so far; program is None where there are no functions."""

    def __init__(self, program):
        self._program = program
        self._frames = [] if program is None else program.frames()
        self.name = None
        self._task = None
        self._shut = ()
        self._handlers = {}
        # Interrupts that are shut somewhere, and whose handlers are still to come.
        self._missing = {}
        self._sizes = {}
        self._limit = None

    def _has_tasks(self):
        """Whether a function of the program can be a task: else no entry has a text."""
        if self._program is None:
            return False
        return len([name for name in self._program.names() if self._program.params(name) == ()]) > 0

    def reads(self, row):
        """Read a line; False if no text of an entry goes on with it."""
        words = row.split(" ")
        if self.name is None:
            return self._has_tasks() and self._reads_house(words)
        if self._task is None:
            return words[0] == "task" and self._reads_task(words)
        if words[0] == "handler":
            return not self._sizes and self._limit is None and self._reads_handler(words)
        if self._missing or self._limit is not None:
            return False
        if words[0] == "size":
            return len(self._sizes) < len(self._frames) and self._reads_size(words)
        return words[0] == "limit" and self._has_all_sizes() and self._reads_limit(words)

    def _reads_house(self, words):
        if len(words) != 2 or words[0] != "house" or not is_name(words[1]):
            return False
        self.name = words[1]
        return True

    def _takes_shut(self, shut, last):
        """Take what a line shuts; False if a handler can be missing for good behind that of the last interrupt."""
        lacking = {interrupt: True for interrupt in shut if interrupt not in self._handlers}
        self._missing = {**self._missing, **lacking}
        if len(self._handlers) + len(self._missing) > MOST_HANDLERS:
            return False
        return not [interrupt for interrupt in self._missing if interrupt < last]

    def _reads_task(self, words):
        shut = _shut_in(words[2:])
        if len(words) < 2 or shut is None or not is_plain_function(self._program, words[1]):
            return False
        self._task = words[1]
        self._shut = shut
        return self._takes_shut(shut, "")

    def _reads_handler(self, words):
        shut = _shut_in(words[4:])
        if len(words) < 4 or shut is None or not is_name(words[1]):
            return False
        _, interrupt, function, number = words[:4]
        times = number_in(number)
        if not is_plain_function(self._program, function) or times is None or times > MOST_ROUNDS:
            return False
        if [other for other in self._handlers if other >= interrupt]:
            return False
        self._handlers[interrupt] = (function, times, shut)
        self._missing = {other: True for other in self._missing if other != interrupt}
        return self._takes_shut(shut, interrupt)

    def _reads_size(self, words):
        size = number_in(words[2]) if len(words) == 3 else None
        if size is None or words[1] != self._frames[len(self._sizes)]:
            return False
        self._sizes[words[1]] = size
        return True

    def _reads_limit(self, words):
        if len(words) != 2:
            return False
        self._limit = 0 if words[1] == "0" else number_in(words[1])
        return self._limit is not None

    def _has_all_sizes(self):
        """Whether there are no sizes yet, or all of them."""
        return len(self._sizes) in (0, len(self._frames))

    def is_whole(self):
        """Whether what was read is the text of an entry."""
        return self._task is not None and not self._missing and self._has_all_sizes()

    def entry(self):
        """The entry whose text was read."""
        house = House(self._program, self._task, self._handlers, shut=self._shut)
        return house, self._sizes if self._sizes else None, self._limit
