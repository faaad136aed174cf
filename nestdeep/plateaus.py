"""Chains of houses: piles of segments that have a line of the house."""

from nestdeep.errors import UnknownLine
from nestdeep.houselines import piles_of_lines
from nestdeep.lines import is_line
from nestdeep.rings import chain_of


def _chain_of_pile(house, pile):
    """The pile with a chain that reaches its term."""
    interrupt, count, term = pile
    function = house.task if interrupt is None else house.handler(interrupt)[0]
    return interrupt, count, chain_of(house.program, function, term)


def chain_of_piles(house, piles):
    """A chain of the house with these piles (interrupt, count, term)."""
    return tuple([_chain_of_pile(house, pile) for pile in piles])


def chain_to(house, line):
    """A chain of the house that has this line."""
    piles = piles_of_lines(house)
    if not is_line(line) or line not in piles:
        raise UnknownLine(line)
    return chain_of_piles(house, piles[line])
