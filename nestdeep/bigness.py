"""Whether an instance can be seen to have too many terms, without making its table.

Of all that is reached with some shut and some returned at most, what is worth the most at some
prices, and of several the greatest, is covered by nothing else. So as many different lines as are
found in this way, at several prices, are lines of different least terms.
"""

from nestdeep.codes import NOW, bits_of
from nestdeep.hulls import dearest, plus
from nestdeep.packs import has_any_within, helping_rows
from nestdeep.plans import MOST_TERMS
from nestdeep.pricing import parting_prices, with_more_prices

# So many prices and so many limits of what is shut and returned are tried.
MOST_PRICES = 300
MOST_TRIES = 1500
# So many rows of one kind tell which prices are tried.
SOME_ROWS = 40


def masks_within(most):
    """The list of all masks within one, parts ahead of what they are parts of."""
    masks = [0]
    for at in bits_of(most):
        masks = masks + [mask | (1 << at) for mask in masks]
    return masks


def _prices_in(groups):
    """Prices at which some of the rows of these groups are told from one another."""
    return parting_prices([row for rows in groups.values() for row in rows], SOME_ROWS)


class Bigness:
    """Looks at the instances of a solver, of which some are big: for these it knows only the parts."""

    def __init__(self, solver):
        self.solver = solver

    def _prices_of(self, instance):
        """Prices at which the lines of an instance are likely to be told from one another."""
        found = []
        waiting = [instance]
        known = {instance: True}
        while waiting and len(found) < MOST_PRICES:
            last = waiting.pop()
            if last not in self.solver.big:
                found.extend(_prices_in(self.solver.tables[last].get(NOW, {})))
                continue
            own, arcs = self.solver.big[last]
            found.extend(_prices_in(own.get(NOW, {})))
            for target, groups in arcs.items():
                found.extend(_prices_in(groups))
                if target not in known:
                    known[target] = True
                    waiting.append(target)
        return with_more_prices(found, MOST_PRICES)

    def is_proved(self, instance):
        """Whether more different lines are found than a form can have terms."""
        codes = self.solver.bodies.codes
        params = [arg for arg in instance[1] if arg in codes.tag_of]
        returned = masks_within(codes.callback_mask(sorted(set(params))))
        limits = [mask for mask in returned if not has_any_within(self.solver.endless_of[instance], mask)]
        shuts = list(reversed(masks_within(codes.shut_mask(codes.shut_names))))
        found = {}
        tries = 0
        for prices in self._prices_of(instance):
            for shut in shuts:
                for limit in reversed(limits):
                    best = self._best(instance, (prices, shut, limit), {})
                    tries += 1
                    if best is not None:
                        found[best] = True
            if len(found) > MOST_TERMS or tries > MOST_TRIES:
                break
        return len(found) > MOST_TERMS

    def _best(self, instance, limits, known):
        """The row of an instance that is worth the most; None if there is none within the limits."""
        if instance not in known:
            known[instance] = self._best_anew(instance, limits, known)
        return known[instance]

    def _best_anew(self, instance, limits, known):
        if instance not in self.solver.big:
            return self._best_of(self.solver.tables[instance].get(NOW, {}), limits)
        own, arcs = self.solver.big[instance]
        best = self._best_of(own.get(NOW, {}), limits)
        rows = [] if best is None else [best]
        for target, groups in arcs.items():
            call = self._best_of(groups, limits)
            inner = None if call is None else self._best(target, limits, known)
            if inner is not None:
                rows.append(plus(call, inner))
        return dearest(rows, limits[0]) if rows else None

    def _best_of(self, groups, limits):
        prices, shut, returned = limits
        rows = helping_rows(groups, shut, returned)
        return dearest(rows, prices) if rows else None
