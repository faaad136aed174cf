"""The greatest depth of a house that is not endless at sizes, found without its lines."""

from nestdeep.forming import form_of
from nestdeep.frames import size_of
from nestdeep.houselines import open_interrupts
from nestdeep.towers import Tower


class SizedForms:
    """The "now" terms of the functions of a program with their sizes, told once for each function."""

    def __init__(self, program, sizes):
        self.program = program
        self.sizes = sizes
        self._sized_terms = {}

    def best_of(self, function):
        """A dict from what is shut to the greatest (size, term) of the terms of a function that shut this."""
        if function not in self._sized_terms:
            best = {}
            for term in form_of(self.program, function).terms:
                if term[2] == "now":
                    size = size_of(term[0], self.sizes)
                    if term[1] not in best or size > best[term[1]][0]:
                        best[term[1]] = (size, term)
            self._sized_terms[function] = best
        return self._sized_terms[function]


class HouseTower:
    """Only interrupts count that have handlers and that the house does not shut from the beginning."""

    def __init__(self, house, sized):
        self._interrupts = open_interrupts(house)
        self._bit_of = {name: 1 << at for at, name in enumerate(self._interrupts)}
        kinds = []
        for interrupt in self._interrupts:
            function, times, shut = house.handler(interrupt)
            kinds.append((times, self._best_places(sized.best_of(function), self._mask_of(shut))))
        self._tower = Tower(kinds)
        self._task = self._best_places(sized.best_of(house.task), 0)
        heights = [(size + self._bound(mask), mask) for mask, (size, _) in self._task.items()]
        self.height, self._deepest = max(heights)

    def _mask_of(self, shut):
        return sum([self._bit_of[name] for name in shut if name in self._bit_of])

    def _best_places(self, best, closed):
        """A dict from masks to the greatest (size, term), when a mask of interrupts is closed anyway."""
        found = {}
        for shut, place in best.items():
            mask = self._mask_of(shut) | closed
            if mask not in found or place[0] > found[mask][0]:
                found[mask] = place
        return found

    def _bound(self, mask):
        return self._tower.bound((mask, self._tower.none_used))

    def piles(self):
        """The tuple of the piles (interrupt, count, term) of a moment that is the deepest one."""
        piles = [(self._interrupts[at], count, term) for at, count, term in self._tower.piles(self._deepest)]
        return (None, 1, self._task[self._deepest][1]), *piles

    def _state(self, state):
        """A state told by names."""
        shut, used = state
        names = [name for name in self._interrupts if shut & self._bit_of[name]]
        return tuple(names), tuple([(name, many) for name, many in zip(self._interrupts, used) if many > 0])

    def bounds(self):
        """A dict from all states that are needed to the least bounds that hold."""
        return {self._state(state): bound for state, bound in self._tower.bounds(list(self._task)).items()}
