"""Lines that are known to be lines: sums, products, sizes, and the checks of sizes and limits."""

from nestdeep.errors import InvalidCount, InvalidSizes
from nestdeep.values import is_count


def summed(lines):
    """The line that has each frame as often as all of these together."""
    counts = {}
    for line in lines:
        for frame, count in line:
            counts[frame] = counts.get(frame, 0) + count
    return tuple(sorted(counts.items()))


def with_more(line, count, frame):
    """The line with so many more of a frame."""
    for at, (other, many) in enumerate(line):
        if other == frame:
            return *line[:at], (frame, many + count), *line[at + 1:]
        if other > frame:
            return *line[:at], (frame, count), *line[at:]
    return *line, (frame, count)


def multiplied(line, count):
    """The line that has each frame so many times as often."""
    if count == 0:
        return ()
    return tuple([(frame, many * count) for frame, many in line])


def size_of(line, sizes):
    """The sum of the counts times the sizes."""
    return sum([count * sizes[frame] for frame, count in line])


def lies_within(line, other):
    """Whether the other line has each frame at least as often."""
    counts = dict(other)
    return all([counts.get(frame, 0) >= count for frame, count in line])


def frames_in(lines):
    """The sorted list of the frames of all these lines."""
    return sorted(set([frame for line in lines for frame, _ in line]))


def check_sizes(frames, sizes):
    """Raise InvalidSizes if this is no dict, or for the first frame that has no size."""
    if not isinstance(sizes, dict):
        raise InvalidSizes(None)
    for frame in frames:
        if not is_count(sizes.get(frame), 1):
            raise InvalidSizes(frame)


def check_limit(limit):
    """Raise InvalidCount for what is no integer from 0 on."""
    if not is_count(limit, 0):
        raise InvalidCount(limit)
