"""Mixes of lines that are known to be lines: what they cover, and what parts a line from them."""

from math import gcd

from nestdeep.frames import frames_in, lies_within, size_of
from nestdeep.tableau import Tableau
from nestdeep.values import fraction


def _weights_in(tableau, prices):
    """The weights of the lines when the goal cannot grow; what is missing to 1 has the first line."""
    tops = [0] * len(tableau.rows)
    tops[0] = tableau.bottom - tableau.goal[0]
    for at, variable in enumerate(tableau.columns):
        if variable >= prices:
            tops[variable - prices] -= tableau.goal[at + 1]
    return tuple([fraction(top, tableau.bottom) for top in tops])


def _solved(line, lines):
    """(weights, None) if the lines cover the line, else (None, prices); there is at least one line.

    At the prices, a list of integers for the line's frames, it is worth more than each of the lines.
    """
    tables = [dict(other) for other in lines]
    held = [[table.get(frame, 0) for frame, _ in line] for table in tables]
    tableau = Tableau([count for _, count in line], held)
    while True:
        column = tableau.entering()
        if column is None:
            return _weights_in(tableau, len(line)), None
        at = tableau.leaving(column)
        if at is None:
            by = (tableau.bottom - tableau.goal[0]) // tableau.goal[column + 1] + 1
            return None, tableau.price_tops(len(line), column, by)
        tableau.pivot(at, column)
        if tableau.goal[0] > tableau.bottom:
            return None, tableau.price_tops(len(line), column, 0)


def is_mixed(line, lines):
    """Whether the lines cover the line."""
    if [other for other in lines if lies_within(line, other)]:
        return True
    tables = [dict(other) for other in lines]
    for frame, count in line:
        if not [table for table in tables if table.get(frame, 0) >= count]:
            return False
    return bool(lines) and _solved(line, lines)[0] is not None


def mix_weights(line, lines):
    """The weights of a mix that covers the line, None if there is none."""
    return _solved(line, lines)[0] if lines else None


def _common(numbers):
    """The greatest common divisor of several numbers."""
    common = 0
    for number in numbers:
        common = gcd(common, number)
    return common


def _growth(line, lines, prices):
    """How often the prices are needed, so that 1 more for each frame changes nothing."""
    ones = {frame: 1 for frame in frames_in([line, *lines])}
    many = 0
    for other in lines:
        ahead = size_of(line, prices) - size_of(other, prices)
        behind = size_of(other, ones) - size_of(line, ones)
        many = max(many, behind // ahead + 1)
    return many


def parting_prices(line, lines):
    """A dict from frames to sizes at which the line is greater than each one of the lines, or None."""
    prices = {frame: 0 for frame in frames_in([line, *lines])}
    if lines:
        tops = _solved(line, lines)[1]
        if tops is None:
            return None
        common = _common(tops)
        for (frame, _), top in zip(line, tops):
            prices[frame] = top // common
    many = _growth(line, lines, prices)
    return {frame: many * prices[frame] + 1 for frame in prices}


def corner_lines(lines):
    """The sorted tuple of the lines that the others do not cover."""
    rest = sorted(set(lines))
    for line in list(rest):
        others = [other for other in rest if other != line]
        if is_mixed(line, others):
            rest = others
    return tuple(rest)
