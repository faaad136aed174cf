"""Mixes of lines: what they cover, the corners of a list, its greatest line."""

from nestdeep.frames import check_sizes, frames_in, size_of
from nestdeep.lines import check_line, check_lines
from nestdeep.mixing import corner_lines, is_mixed, mix_weights, parting_prices


def is_covered(line, lines):
    """Whether some mix of the lines has of each frame at least as many as the line."""
    check_line(line)
    check_lines(lines)
    return is_mixed(line, lines)


def weights(line, lines):
    """The weights of a mix that covers the line, in the order of the list; None if there is none."""
    check_line(line)
    check_lines(lines)
    return mix_weights(line, lines)


def parting_sizes(line, lines):
    """Sizes at which the line is greater than each one of the lines, None if it is covered."""
    check_line(line)
    check_lines(lines)
    return parting_prices(line, lines)


def corners(lines):
    """The sorted tuple of the lines that the other ones do not cover."""
    check_lines(lines)
    return corner_lines(lines)


def greatest(lines, sizes):
    """The greatest size, and the least line that has it; None without lines."""
    check_lines(lines)
    check_sizes(frames_in(lines), sizes)
    if not lines:
        return None
    most = max([size_of(line, sizes) for line in lines])
    return most, min([line for line in lines if size_of(line, sizes) == most])
