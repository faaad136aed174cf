"""Mixes of lines that are known to be lines: what they cover, and what parts a line from them."""

from math import gcd

from nestdeep.frames import frames_in, lies_within
from nestdeep.hulls import left_over
from nestdeep.tableau import Tableau
from nestdeep.values import fraction


def _scarce_frame(line, lines):
    """The first frame that the line has more often than each one of the lines, or None."""
    tables = [dict(other) for other in lines]
    for frame, count in line:
        if not [table for table in tables if table.get(frame, 0) >= count]:
            return frame
    return None


def _weights_in(tableau, prices):
    """The weights of the lines when the goal cannot grow; what is missing to 1 has the first line."""
    tops = [0] * len(tableau.basis)
    tops[0] = tableau.bottom - tableau.goal[0]
    for at, variable in enumerate(tableau.columns):
        if variable >= prices:
            tops[variable - prices] -= tableau.goal[at + 1]
    return tuple([fraction(top, tableau.bottom) for top in tops])


def _solved(line, lines):
    """(weights, None) if the lines cover the line, else (None, prices); no frame is scarce.

    At the prices, a list of integers for the line's frames, it is worth more than each of the lines.
    """
    tables = [dict(other) for other in lines]
    held = [[table.get(frame, 0) for frame, _ in line] for table in tables]
    tableau = Tableau([count for _, count in line], held)
    while tableau.goal[0] <= tableau.bottom:
        column = tableau.entering()
        if column is None:
            return _weights_in(tableau, len(line)), None
        tableau.pivot(tableau.leaving(column), column)
    return None, tableau.price_tops(len(line))


def is_mixed(line, lines):
    """Whether the lines cover the line."""
    if not lines or _scarce_frame(line, lines) is not None:
        return False
    if [other for other in lines if lies_within(line, other)]:
        return True
    return _solved(line, lines)[1] is None


def mix_weights(line, lines):
    """The weights of a mix that covers the line, None if there is none."""
    if not lines or _scarce_frame(line, lines) is not None:
        return None
    return _solved(line, lines)[0]


def _common(numbers):
    """The greatest common divisor of several numbers."""
    common = 0
    for number in numbers:
        common = gcd(common, number)
    return common


def _prices(line, lines):
    """A dict from the frames of the line to prices from 0 on that part it from the lines, or None."""
    frame = _scarce_frame(line, lines)
    if frame is not None:
        return {frame: 1}
    tops = _solved(line, lines)[1] if lines else []
    if tops is None:
        return None
    common = _common(tops)
    return {line[at][0]: top // common for at, top in enumerate(tops)}


def _times_needed(line, other, prices):
    """How often the prices are needed, so that 1 more for each frame cannot put the other line ahead."""
    ahead = sum([count * prices.get(frame, 0) for frame, count in line])
    ahead -= sum([count * prices.get(frame, 0) for frame, count in other])
    behind = sum([count for _, count in other]) - sum([count for _, count in line])
    return behind // ahead + 1


def parting_prices(line, lines):
    """A dict from frames to sizes at which the line is greater than each one of the lines, or None."""
    prices = _prices(line, lines)
    if prices is None:
        return None
    times = max([0] + [_times_needed(line, other, prices) for other in lines])
    return {frame: times * prices.get(frame, 0) + 1 for frame in frames_in([line, *lines])}


def corner_lines(lines):
    """The sorted tuple of the lines that the others do not cover."""
    if not lines:
        return ()
    frames = frames_in(lines)
    rows = {}
    for line in lines:
        counts = dict(line)
        rows[tuple([counts.get(frame, 0) for frame in frames])] = line
    return tuple(sorted([rows[row] for row in left_over(list(rows), [])]))
