"""Programs: functions that call one another."""

from nestdeep.errors import UnknownFunction
from nestdeep.nodes import nodes_of
from nestdeep.programchecks import checked_statements, frames_of, interrupts_of


class Program:
    """One to twenty-four functions, sorted by name, however they are passed."""

    MOST = 24

    def __init__(self, functions):
        self._statements_of = checked_statements(functions, self.MOST)
        self._rows = sorted(functions, key=lambda row: row[0])
        self._functions_by_name = {row[0]: row for row in self._rows}
        every = [statement for rows in self._statements_of.values() for statement in rows]
        self._frames = frames_of(every)
        self._interrupts = interrupts_of(every)
        self._nodes = {}
        # What nestdeep.reckoner keeps for this program.
        self.kept = None

    @classmethod
    def of(cls, *functions):
        """The program of these functions."""
        return cls(functions)

    def names(self):
        """The sorted list of the names of the functions."""
        return [row[0] for row in self._rows]

    def functions(self):
        """The list of the functions, sorted by name."""
        return list(self._rows)

    def frames(self):
        """The sorted list of the frames that occur."""
        return list(self._frames)

    def interrupts(self):
        """The sorted list of the interrupts that occur."""
        return list(self._interrupts)

    def _function(self, name):
        if not isinstance(name, str) or name not in self._functions_by_name:
            raise UnknownFunction(name)
        return self._functions_by_name[name]

    def params(self, name):
        """The tuple of the parameters of a function."""
        return self._function(name)[1]

    def body(self, name):
        """The body of a function."""
        return self._function(name)[2]

    def statement_rows(self, name):
        """The statements of a function, in the order of the text; nobody changes the list."""
        return self._statements_of[name]

    def nodes(self, name):
        """The nodes of a function's body and the number of the first one; nobody changes them."""
        if name not in self._nodes:
            self._nodes[name] = nodes_of(self.body(name))
        return self._nodes[name]

    def uses(self, name):
        """The sorted list of the functions that a function calls or passes."""
        params = self.params(name)
        calls = [statement for statement in self._statements_of[name] if statement[0] == "call"]
        called = [call[1] for call in calls]
        passed = [arg for call in calls for arg in call[2] if arg not in params]
        return sorted(set([*called, *passed]))

    def __contains__(self, name):
        return isinstance(name, str) and name in self._functions_by_name

    def __len__(self):
        return len(self._rows)

    def __iter__(self):
        return iter(self._rows)

    def __eq__(self, other):
        return isinstance(other, Program) and self._rows == other._rows

    def __repr__(self):
        return f"Program({self._rows!r})"
