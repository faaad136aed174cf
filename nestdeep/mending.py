"""Mends, tried one after another; each set of mends is looked at once.

A mend that does not stop a moment that is too deep leaves the house too deep. So just those mends
are tried that stop the deepest one.
"""

from nestdeep.houselines import endless_parts, found_ring, own_forms
from nestdeep.housetowers import HouseTower, SizedForms
from nestdeep.plateaus import chain_of_piles


def mend_key(mend):
    """What mends are sorted by; the task's come first."""
    segment, interrupt = mend
    return "" if segment is None else segment, interrupt


def in_mend_order(mends):
    """The tuple of these mends, each once, in mend order."""
    return tuple(sorted({mend: True for mend in mends}, key=mend_key))


def mends_above(piles):
    """The tuple of the mends (segment, interrupt) such that in piles (interrupt, count) one stands above the other."""
    found = []
    below = []
    for interrupt, count in piles:
        below = [*below, interrupt] if count > 1 else below
        found.extend([(segment, interrupt) for segment in below])
        below = below if count > 1 else [*below, interrupt]
    return in_mend_order(found)


def with_mends(house, mends):
    """The house in which the segments of these mends shut their interrupts, too."""
    found = house.with_shut([])
    for segment, interrupt in mends:
        found = found.with_shut([interrupt], handler=segment)
    return found


class Mender:
    """Tries mends of a house, whose functions have not too many terms, at sizes and a limit."""

    def __init__(self, house, sizes, limit):
        self._house = house
        self._limit = limit
        self._sized = SizedForms(house.program, sizes)
        self._outcomes = {}
        self._values = {}

    def _outcome(self, mends):
        """None if the house keeps the limit with these mends; else (house, piles, its own mends).

        The piles are those of the deepest moment, None if the house is endless.
        """
        if mends not in self._outcomes:
            self._outcomes[mends] = self._outcome_anew(with_mends(self._house, mends))
        return self._outcomes[mends]

    def _outcome_anew(self, house):
        parts = endless_parts(house, own_forms(house))
        if parts:
            interrupt = parts[0][0]
            return house, None, () if interrupt is None else ((None, interrupt),)
        tower = HouseTower(house, self._sized)
        if tower.height <= self._limit:
            return None
        piles = tower.piles()
        return house, piles, mends_above([(interrupt, count) for interrupt, count, _ in piles])

    def _all_mends(self):
        return [(segment, interrupt) for segment in [None, *self._house] for interrupt in self._house]

    def least(self):
        """The first of the smallest sets of at most two mends that are enough, None if none is."""
        outcome = self._outcome(())
        if outcome is None:
            return ()
        for mend in list(outcome[2]):
            if self._outcome((mend,)) is None:
                return (mend,)
        return self._least_pair(outcome[2])

    def _least_pair(self, own):
        """The first pair of mends that is enough, when no single one is; None if there is none."""
        for first in self._all_mends():
            for second in list(self._outcome((first,))[2]):
                if mend_key(first) < mend_key(second) and (first in own or second in own):
                    if self._outcome((first, second)) is None:
                        return first, second
        return None

    def _value(self, mends, outcome):
        """The chain or the ring for which the house is too deep with these mends."""
        if mends not in self._values:
            house, piles, _ = outcome
            self._values[mends] = found_ring(house) if piles is None else chain_of_piles(house, piles)
        return self._values[mends]

    def no_tree(self, mends, depth):
        """A no-tree of this depth for the house with these mends, None if there is none."""
        outcome = self._outcome(mends)
        if outcome is None:
            return None
        branches = []
        for mend in list(outcome[2]) if depth > 0 else []:
            tree = self.no_tree(in_mend_order([*mends, mend]), depth - 1)
            if tree is None:
                return None
            branches.append((mend, tree))
        return self._value(mends, outcome), tuple(branches)
