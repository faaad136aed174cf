"""How much the sizes of frames can grow so that a limit is kept."""

from nestdeep.errors import InvalidLine, NoneFits
from nestdeep.frames import check_limit, check_sizes, frames_in, size_of
from nestdeep.lines import check_lines
from nestdeep.values import is_list


def _check(lines, sizes, limit):
    """Check all that is passed, and that the limit is kept."""
    if not is_list(lines) or not lines:
        raise InvalidLine(lines)
    check_lines(lines)
    check_sizes(frames_in(lines), sizes)
    check_limit(limit)
    if max([size_of(line, sizes) for line in lines]) > limit:
        raise NoneFits()


def slack(lines, sizes, limit):
    """A dict from the frames of the lines to how much the size of each one alone can grow."""
    _check(lines, sizes, limit)
    found = {}
    for line in lines:
        left = limit - size_of(line, sizes)
        for frame, count in line:
            found[frame] = min(found.get(frame, left // count), left // count)
    return {frame: found[frame] for frame in sorted(found)}


def common_slack(lines, sizes, limit):
    """How much the sizes of all frames can grow at once, None if no line has a frame."""
    _check(lines, sizes, limit)
    counted = [(limit - size_of(line, sizes), sum([count for _, count in line])) for line in lines]
    return min([left // count for left, count in counted if count > 0], default=None)
