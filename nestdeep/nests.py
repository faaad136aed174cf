"""How deep the stack of a house can ever be."""

from nestdeep.frames import check_sizes
from nestdeep.houselines import endless_parts, found_ring, own_forms, piles_of_lines
from nestdeep.mixes import greatest


def is_endless(house):
    """Whether no number bounds the lines of the house's moments."""
    return len(endless_parts(house, own_forms(house))) > 0


def house_ring(house):
    """A ring of the house, None if it is not endless."""
    return found_ring(house)


def lines_of(house):
    """The sorted tuple of the lines of the house."""
    return tuple(sorted(piles_of_lines(house)))


def greatest_depth(house, sizes):
    """The greatest depth of the house, and the least of its lines that have this size."""
    check_sizes(house.program.frames(), sizes)
    return greatest(lines_of(house), sizes)
