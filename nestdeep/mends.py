"""Mends of houses: what more must be shut so that a limit is kept, and why fewer mends are not enough."""

from nestdeep.errors import InvalidChain, InvalidCount, InvalidMends
from nestdeep.frames import check_limit, check_sizes, size_of
from nestdeep.housechains import told_chain
from nestdeep.mending import Mender, mends_above, with_mends
from nestdeep.nestpapers import is_house_ring
from nestdeep.values import is_count, is_list, is_tuple_of

MOST_MENDS = 2


def _is_mend(house, value):
    if not is_tuple_of(value, 2) or (value[0] is not None and value[0] not in house):
        return False
    return value[1] in house


def mended(house, mends):
    """The house in which the segments of the mends shut their interrupts, too."""
    if not is_list(mends):
        raise InvalidMends(None)
    for position, mend in enumerate(mends):
        if not _is_mend(house, mend):
            raise InvalidMends(position)
    return with_mends(house, mends)


def _own_mends(chain):
    """The own mends of a value that is known to be a chain of a house."""
    return mends_above([(interrupt, count) for interrupt, count, _ in chain])


def own_mends(house, chain):
    """The tuple of the mends such that one kind of segment stands above the other in a chain, in mend order."""
    if told_chain(house, chain) is None:
        raise InvalidChain(chain)
    return _own_mends(chain)


def _check(house, sizes, limit):
    check_sizes(house.program.frames(), sizes)
    check_limit(limit)


def _check_depth(depth):
    if not is_count(depth, 0) or depth > MOST_MENDS:
        raise InvalidCount(depth)


def least_mends(house, sizes, limit):
    """The first of the smallest sets of at most two mends with which the house keeps the limit, or None."""
    _check(house, sizes, limit)
    return Mender(house, sizes, limit).least(MOST_MENDS)


def no_tree(house, sizes, limit, depth):
    """A no-tree of this depth, None if there is none."""
    _check(house, sizes, limit)
    _check_depth(depth)
    return Mender(house, sizes, limit).no_tree(depth)


def _wanted_mends(house, sizes, limit, value):
    """The mends that each need a branch for a chain or a ring, None if it does not exceed the limit."""
    if is_house_ring(house, value):
        return () if value[0] is None else ((None, value[0]),)
    told = told_chain(house, value)
    return None if told is None or size_of(told[0], sizes) <= limit else _own_mends(value)


def _is_branch(house, value, mend):
    """Whether this is a tuple of two items, of which the first one is the mend."""
    return is_tuple_of(value, 2) and _is_mend(house, value[0]) and value[0] == mend


def _is_tree(house, sizes, limit, depth, value):
    """Whether this is a no-tree; the sizes and the limit are right."""
    if not is_tuple_of(value, 2):
        return False
    wanted = _wanted_mends(house, sizes, limit, value[0])
    if wanted is None:
        return False
    wanted = wanted if depth > 0 else ()
    if not is_tuple_of(value[1], len(wanted)):
        return False
    for mend, branch in zip(wanted, value[1]):
        if not _is_branch(house, branch, mend):
            return False
        if not _is_tree(with_mends(house, [mend]), sizes, limit, depth - 1, branch[1]):
            return False
    return True


def is_no_tree(house, sizes, limit, depth, value):
    """Whether this is a no-tree of this depth."""
    _check(house, sizes, limit)
    _check_depth(depth)
    return _is_tree(house, sizes, limit, depth, value)
