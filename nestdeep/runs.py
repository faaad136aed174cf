"""Runs: lists of events that are possible one after another."""

from nestdeep.errors import InvalidChoice, InvalidRun
from nestdeep.frames import check_sizes, size_of
from nestdeep.machine import Machine
from nestdeep.values import is_list


def _check_list(events):
    if not is_list(events):
        raise InvalidRun(None)


def _do(machine, event, position):
    """Do the event at this position of a run."""
    try:
        machine.do(event)
    except InvalidChoice as error:
        raise InvalidRun(position) from error


def played(house, events):
    """The machine behind a run."""
    _check_list(events)
    machine = Machine(house)
    for position, event in enumerate(events):
        _do(machine, event, position)
    return machine


def is_run(house, value):
    """Whether this is a run of the house."""
    try:
        played(house, value)
    except InvalidRun:
        return False
    return True


def moments(house, events):
    """Yield (line, shut) of the beginning and behind each event."""
    _check_list(events)
    rows = list(events)
    machine = Machine(house)
    yield machine.line, machine.shut
    for position, event in enumerate(rows):
        _do(machine, event, position)
        yield machine.line, machine.shut


def deepest(house, events, sizes):
    """The greatest depth of a run's moments, and the line of the first one that has it."""
    lines = [moment[0] for moment in moments(house, events)]
    check_sizes(house.program.frames(), sizes)
    depth = max([size_of(line, sizes) for line in lines])
    return depth, [line for line in lines if size_of(line, sizes) == depth][0]
