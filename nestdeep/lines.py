"""Lines: how often a stack has each frame."""

from nestdeep.errors import InvalidCount, InvalidLine, InvalidText
from nestdeep.frames import check_sizes, lies_within, multiplied, size_of, summed
from nestdeep.functions import is_name
from nestdeep.values import is_count, is_list, is_tuple_of, number_in


def _is_part(value):
    return is_tuple_of(value, 2) and is_name(value[0]) and is_count(value[1], 1)


def is_line(value):
    """Whether this is a tuple of tuples (frame, count), sorted by frame."""
    if not isinstance(value, tuple) or not all([_is_part(part) for part in value]):
        return False
    return all([value[at][0] < value[at + 1][0] for at in range(len(value) - 1)])


def check_line(line):
    """Raise InvalidLine for a value that is no line."""
    if not is_line(line):
        raise InvalidLine(line)


def check_lines(lines):
    """Raise InvalidLine for the first item that is no line, or for what is no list."""
    if not is_list(lines):
        raise InvalidLine(lines)
    for line in lines:
        check_line(line)


def line_sum(lines):
    """The line that has each frame as often as all of these together."""
    check_lines(lines)
    return summed(lines)


def line_times(line, count):
    """The line that has each frame so many times as often."""
    check_line(line)
    if not is_count(count, 0):
        raise InvalidCount(count)
    return multiplied(line, count)


def line_size(line, sizes):
    """The sum of the line's counts times the sizes."""
    check_line(line)
    check_sizes([frame for frame, _ in line], sizes)
    return size_of(line, sizes)


def is_within(line, other):
    """Whether the other line has each frame at least as often."""
    check_line(line)
    check_line(other)
    return lies_within(line, other)


def line_text(line):
    """The text of a line, such as `2 a + 1 b`."""
    check_line(line)
    return " + ".join([f"{count} {frame}" for frame, count in line]) if line else "0"


def _part_in(text):
    """The frame and the count that are written so; no part of a line if the text is wrong."""
    words = text.split(" ")
    return (words[1], number_in(words[0])) if len(words) == 2 else ()


def parse_line(text):
    """The line of a text."""
    if not isinstance(text, str):
        raise InvalidText(0)
    if text == "0":
        return ()
    line = tuple([_part_in(part) for part in text.split(" + ")])
    if not is_line(line):
        raise InvalidText(1)
    return line
