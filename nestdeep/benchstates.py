"""What a bench has at one time, and what it has behind a deed; no state is ever changed."""

from nestdeep.benchnews import all_used
from nestdeep.errors import InvalidHouse
from nestdeep.forming import forms
from nestdeep.frames import check_sizes
from nestdeep.house import House
from nestdeep.instancebodies import InstanceBodies
from nestdeep.nests import is_endless, lines_of
from nestdeep.reckoner import Reckoner


class BenchState:
    """A program or None, its forms by functions, and the entries and their lines by names."""

    def __init__(self, program, form_of_name, entry_of_name, lines_of_name):
        self.program = program
        self.form_of_name = form_of_name
        self.entry_of_name = entry_of_name
        self.lines_of_name = lines_of_name


def lines_or_none(house):
    """The lines of a house, None if it is endless."""
    return None if is_endless(house) else lines_of(house)


def sizes_of_frames(program, sizes):
    """A dict with just the sizes of the program's frames, None without sizes or frames. Raises InvalidSizes."""
    if sizes is None:
        return None
    frames = program.frames()
    check_sizes(frames, sizes)
    return {frame: sizes[frame] for frame in frames} if frames else None


def entry_with(program, entry):
    """The entry with its house made anew with another program."""
    house, sizes, limit = entry
    if program is None:
        raise InvalidHouse("task", None)
    made = House(program, house.task, house.handlers(), shut=house.shut)
    return made, sizes_of_frames(program, sizes), limit


def _has_same_forms(house, forms_before, forms_behind):
    """Whether the task and the handlers of a house have the forms that they had, and so it has the lines."""
    functions = [house.task, *[house.handler(interrupt)[0] for interrupt in house]]
    return all([forms_before[name] == forms_behind[name] for name in functions])


def _keep_what_holds(before, program):
    """Let a program keep what was reckoned for the one before it and holds for both."""
    rows_before = {row[0]: row for row in before.functions()}
    rows = {row[0]: row for row in program.functions()}
    changed = [name for name in sorted({**rows_before, **rows}) if rows.get(name) != rows_before.get(name)]
    used = all_used(program)
    stale = [name for name in rows if [other for other in changed if other in used[name]]]
    program.kept = Reckoner(InstanceBodies(program))
    program.kept.take_over(before.kept, changed, [*changed, *stale])


def state_with_program(state, program):
    """The state with another program, None if it is without functions. Raises what a deed raises last."""
    entries = {name: entry_with(program, state.entry_of_name[name]) for name in sorted(state.entry_of_name)}
    if program is not None and state.program is not None:
        _keep_what_holds(state.program, program)
    found = {} if program is None else forms(program)
    lines = {}
    for name, entry in entries.items():
        if _has_same_forms(entry[0], state.form_of_name, found):
            lines[name] = state.lines_of_name[name]
        else:
            lines[name] = lines_or_none(entry[0])
    return BenchState(program, found, entries, lines)


def state_with_entry(state, name, entry):
    """The state with an entry, in the place of one that has the name."""
    entries = {**state.entry_of_name, name: entry}
    lines = {**state.lines_of_name, name: lines_or_none(entry[0])}
    return BenchState(state.program, state.form_of_name, entries, lines)


def state_without_entry(state, name):
    """The state without an entry."""
    entries = {other: entry for other, entry in state.entry_of_name.items() if other != name}
    lines = {other: told for other, told in state.lines_of_name.items() if other != name}
    return BenchState(state.program, state.form_of_name, entries, lines)
