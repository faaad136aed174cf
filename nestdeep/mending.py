"""Mends, tried one after another; each set of mends is looked at once."""

from nestdeep.houselines import endless_parts, found_ring, own_forms
from nestdeep.housetowers import HouseTower, SizedForms
from nestdeep.plateaus import chain_of_piles


def mend_key(mend):
    """What mends are sorted by; the task's come first."""
    segment, interrupt = mend
    return "" if segment is None else segment, interrupt


def in_mend_order(mends):
    """The tuple of these mends, each once, in mend order."""
    return tuple(sorted({mend: True for mend in mends}, key=mend_key))


def mends_above(piles):
    """The tuple of the mends (segment, interrupt) such that in piles (interrupt, count) one stands above the other."""
    found = []
    below = []
    for interrupt, count in piles:
        # Of several segments one stands upon another.
        under = [*below, interrupt] if count > 1 else below
        found.extend([(segment, interrupt) for segment in under])
        below = [*below, interrupt]
    return in_mend_order(found)


def with_mends(house, mends):
    """The house in which the segments of these mends shut their interrupts, too."""
    found = house.with_shut([])
    for segment, interrupt in mends:
        found = found.with_shut([interrupt], handler=segment)
    return found


class Mender:
    """Tries mends of a house, whose functions have not too many terms, at sizes and a limit."""

    def __init__(self, house, sizes, limit):
        self._house = house
        self._limit = limit
        self._sized = SizedForms(house.program, sizes)
        self._outcomes = {}
        self._values = {}

    def _outcome(self, mends):
        """None if the house keeps the limit with these mends; else (house, piles, its own mends).

        The piles are those of the deepest moment, None if the house is endless.
        """
        if mends not in self._outcomes:
            self._outcomes[mends] = self._outcome_anew(with_mends(self._house, mends))
        return self._outcomes[mends]

    def _outcome_anew(self, house):
        parts = endless_parts(house, own_forms(house))
        if parts:
            interrupt = parts[0][0]
            return house, None, () if interrupt is None else ((None, interrupt),)
        tower = HouseTower(house, self._sized)
        if tower.height <= self._limit:
            return None
        piles = tower.piles()
        return house, piles, mends_above([(interrupt, count) for interrupt, count, _ in piles])

    def least(self, most):
        """The first of the smallest sets of at most so many mends, up to two, that are enough; None if none is.

        What the task shuts never comes. So in the place of any other mend the task's mend of the
        same interrupt is enough, too, and it comes first: only mends of the task are tried.
        """
        mends = [(None, interrupt) for interrupt in self._house]
        singles = [(mend,) for mend in mends] if most > 0 else []
        pairs = [(mends[at], mend) for at in range(len(mends)) for mend in mends[at + 1:]] if most > 1 else []
        for tried in [(), *singles, *pairs]:
            if self._outcome(tried) is None:
                return tried
        return None

    def _value(self, mends, outcome):
        """The chain or the ring for which the house is too deep with these mends."""
        if mends not in self._values:
            house, piles, _ = outcome
            self._values[mends] = found_ring(house) if piles is None else chain_of_piles(house, piles)
        return self._values[mends]

    def _tree(self, mends, depth):
        """The no-tree of this depth for the house with these mends; there is one."""
        outcome = self._outcome(mends)
        own = list(outcome[2]) if depth > 0 else []
        branches = [(mend, self._tree(in_mend_order([*mends, mend]), depth - 1)) for mend in own]
        return self._value(mends, outcome), tuple(branches)

    def no_tree(self, depth):
        """A no-tree of this depth, None if so many mends are enough."""
        return self._tree((), depth) if self.least(depth) is None else None
