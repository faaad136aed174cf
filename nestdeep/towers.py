"""How deep what stands above a moment can become, when all frames have sizes.

Interrupts that can come are told by numbers, sets of them by masks. In a STATE (shut, used) just
the interrupts of the mask shut are shut, and used has for each number how many segments of its
handler stand below that shut something new. Segments that shut nothing new are piled when their
interrupt is shut or at the end: then most is shut, so most of the handler's places can be chosen.
"""


class Tower:
    """kinds has for each number how often the handler may stand, and a dict from masks to the best (size, term).

    A mask tells all that is shut at such a place, the handler's own shut included.
    """

    def __init__(self, kinds):
        self._kinds = kinds
        self.none_used = tuple([0 for _ in kinds])
        self._bulks = {}
        self._above = {}

    def _open_numbers(self, shut):
        return [number for number in range(len(self._kinds)) if not shut >> number & 1]

    def _bulk(self, number, shut):
        """The greatest size of a segment that shuts nothing new, and its term; (0, None) if there is none."""
        if (number, shut) not in self._bulks:
            best = (0, None)
            for mask, place in self._kinds[number][1].items():
                if mask | shut == shut and place[0] > best[0]:
                    best = place
            self._bulks[number, shut] = best
        return self._bulks[number, shut]

    def _left(self, number, used):
        return self._kinds[number][0] - used[number]

    def _piled(self, numbers, shut, used):
        """The size of all segments left of these interrupts that shut nothing new."""
        return sum([self._left(number, used) * self._bulk(number, shut)[0] for number in numbers])

    def _steps(self, state):
        """The list of tuples (number, size, term, next state) of the segments that can shut something new."""
        shut, used = state
        steps = []
        for number in self._open_numbers(shut):
            if self._left(number, used) > 0:
                more = (*used[:number], used[number] + 1, *used[number + 1:])
                for mask, (size, term) in self._kinds[number][1].items():
                    if mask | shut != shut:
                        steps.append((number, size, term, (mask | shut, more)))
        return steps

    def _below(self, state, following):
        """The interrupts that are shut only in the state that follows."""
        return self._open_numbers(state[0] | ~following[0])

    def bound(self, state):
        """The greatest size of what can stand above."""
        return self._told(state)[0]

    def _told(self, state):
        """The bound of a state and the step to it, None if nothing that stands above shuts something new."""
        shut, used = state
        # What was used of an interrupt that is shut has no effect any more.
        used = tuple([0 if shut >> number & 1 else many for number, many in enumerate(used)])
        if (shut, used) not in self._above:
            best = (self._piled(self._open_numbers(shut), shut, used), None)
            for step in self._steps((shut, used)):
                _, size, _, following = step
                size += self._piled(self._below((shut, used), following), shut, following[1]) + self.bound(following)
                if size > best[0]:
                    best = (size, step)
            self._above[shut, used] = best
        return self._above[shut, used]

    def bounds(self, shuts):
        """A dict to the bounds from the states that can follow when first just one of the shuts is shut."""
        found = {(shut, self.none_used): True for shut in shuts}
        waiting = list(found)
        while waiting:
            last = waiting.pop()
            for step in self._steps(last):
                if step[3] not in found:
                    found[step[3]] = True
                    waiting.append(step[3])
        return {state: self.bound(state) for state in found}

    def _flat_piles(self, numbers, shut, used):
        piles = []
        for number in numbers:
            size, term = self._bulk(number, shut)
            if size > 0 and self._left(number, used) > 0:
                piles.append((number, self._left(number, used), term))
        return piles

    def piles(self, shut):
        """The piles (number, count, term) of the greatest size when just this is shut, from below."""
        state = (shut, self.none_used)
        piles = []
        step = self._told(state)[1]
        while step is not None:
            number, _, term, following = step
            piles.extend(self._flat_piles(self._below(state, following), state[0], following[1]))
            piles.append((number, 1, term))
            state = following
            step = self._told(state)[1]
        return piles + self._flat_piles(self._open_numbers(state[0]), state[0], state[1])
