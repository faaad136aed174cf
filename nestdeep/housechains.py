"""What chains of houses tell; they are looked at pile by pile, nothing is searched for."""

from nestdeep.chainpapers import ChainJudge
from nestdeep.frames import multiplied, summed
from nestdeep.functions import united
from nestdeep.reckoner import reckoner_of
from nestdeep.values import is_count, is_tuple_of


def _kind_of_pile(house, interrupt):
    """The handler for which a pile of an interrupt stands, that of the task for None; or None."""
    if interrupt is None:
        return house.task, 1, house.shut
    return house.handler(interrupt) if interrupt in house else None


def _told_pile(house, value):
    """A tuple (times, line, shut) of a pile, None if this is none."""
    if not is_tuple_of(value, 3) or not is_count(value[1], 1):
        return None
    kind = _kind_of_pile(house, value[0])
    if kind is None:
        return None
    function, times, closed = kind
    term = ChainJudge(reckoner_of(house.program, function).bodies, function).chain_term(value[2])
    if term is None or term[2] != "now":
        return None
    return times, multiplied(term[0], value[1]), united(term[1], closed)


def told_chain(house, value):
    """A tuple (line, shut) of a chain of the house, None if this is none."""
    if not isinstance(value, tuple) or not value:
        return None
    lines, shut, standing = [], (), {}
    for at, pile in enumerate(value):
        told = _told_pile(house, pile)
        if told is None or (pile[0] is None) != (at == 0):
            return None
        interrupt, count, _ = pile
        times, line, closed = told
        standing[interrupt] = standing.get(interrupt, 0) + count
        if standing[interrupt] > times or interrupt in shut or (count > 1 and interrupt in closed):
            return None
        lines.append(line)
        shut = united(shut, closed)
    return summed(lines), shut
