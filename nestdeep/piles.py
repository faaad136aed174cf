"""The greatest lines of a house that is not endless, and the piles of segments that have them.

Only interrupts count that have handlers and are not in the house's own shut; they are told by
numbers, sets of them by masks. A PILE is here a tuple (number, count, term) of so many segments of
an interrupt's handler, one upon another, each at a place that reaches the term; number is None for
the task. A HEAP is a dict from rows to tuples of piles that have them. It has the corners only:
the other rows are covered by them, and so is what comes of the others with more upon them.

Segments that shut nothing new are piled when the last moment for it has come, when their interrupt
is shut or at the end: then most is shut, so most of the handler's terms can be chosen.
"""

from nestdeep.errors import TooMany
from nestdeep.hulls import are_apart, dearest, is_below_any, left_over, plus, scaled
from nestdeep.pricing import parting_prices, with_more_prices

MOST_LINES = 60
# From so many rows in a heap on it is asked whether the lines are too many; so many sums that no
# search is needed for are as much work as one row.
MANY_ROWS = 150
SUMS_FOR_A_ROW = 30
# So many rows tell at which prices is looked for lines. At most so many prices are tried, and from
# some prices on only as long as about each third one shows a line that was not known.
SOME_ROWS = 80
MOST_PRICES = 250
SOME_PRICES = 20


class Piles:
    """kinds has for each number how often the handler may stand and its terms.

    The terms are tuples (row, mask of what is shut then, term), those of the task likewise. With
    prices, a dict from the numbers of frames to their prices, a heap has only the one row that is
    worth the most, of several the greatest: a corner.
    """

    def __init__(self, kinds, task_terms, nothing, prices=None):
        self._kinds = kinds
        self._prices = prices
        # How many rows are many now: it grows each time, as asking takes long, too.
        self._many = MANY_ROWS
        self._known = {}
        self._task_terms = task_terms
        self._nothing = nothing
        self._above = {}
        self._flat = {}

    def _least(self, found):
        """The heap of the corners of a dict from rows to piles."""
        if len(found) < 2:
            return found
        if self._prices is not None:
            row = dearest(list(found), self._prices)
            return {row: found[row]}
        self._ask_if_many(list(found), len(found))
        return {row: found[row] for row in left_over(list(found), [])}

    def _ask_if_many(self, rows, work):
        """Ask ahead of what is as much work as a search among so many rows; with prices nothing is searched."""
        if self._prices is None and work > self._many:
            self._many = 2 * work
            self._ask(rows)

    def _ask(self, rows):
        """Raise TooMany(None) if the house is seen to have too many lines, at prices that part some rows."""
        known = {line: True for line in self._known}
        tries = 0
        for prices in with_more_prices(parting_prices(rows, SOME_ROWS), MOST_PRICES):
            (line,) = list(Piles(self._kinds, self._task_terms, self._nothing, prices).whole())
            known[line] = True
            if len(known) > MOST_LINES:
                raise TooMany(None)
            tries += 1
            if tries > SOME_PRICES + 3 * len(known):
                break
        self._known = known

    def _joined(self, heaps):
        """The heap of what is in one heap or more."""
        found = {}
        for heap in heaps:
            for row, piles in heap.items():
                found.setdefault(row, piles)
        most = max(heaps, key=len)
        more = [row for row in found if row not in most]
        if more:
            self._ask_if_many(list(found), len(found))
        if [row for row in more if not is_below_any(row, most)]:
            return self._least(found)
        # The corners of one heap do not cover one another.
        return {row: found[row] for row in most}

    def _upon(self, heap, other):
        """The heap of each one of a heap with each one of another heap upon it."""
        apart = len(heap) < 2 or len(other) < 2 or are_apart(list(heap), list(other))
        work = len(heap) * len(other) // SUMS_FOR_A_ROW
        if apart and work > 0:
            self._ask_if_many(list(max(heap, other, key=len)), work)
        found = {}
        for row, piles in heap.items():
            for more, upper in other.items():
                found[plus(row, more)] = (*piles, *upper)
        return found if apart else self._least(found)

    def _flat_heap(self, number, shut):
        """The heap of single segments of a handler that shut nothing that is not shut already."""
        if (number, shut) not in self._flat:
            found = {row: ((number, 1, term),) for row, mask, term in self._kinds[number][1] if mask | shut == shut}
            self._flat[number, shut] = self._least(found)
        return self._flat[number, shut]

    def _bulk(self, shut, used, numbers):
        """The heap of all segments left of these interrupts that shut nothing new."""
        heap = {self._nothing: ()}
        for number in numbers:
            rest = self._kinds[number][0] - used[number]
            flat = self._flat_heap(number, shut)
            if rest > 0 and flat and list(flat) != [self._nothing]:
                full = {scaled(row, rest): ((number, rest, pile[2]),) for row, (pile,) in flat.items()}
                heap = self._upon(heap, full)
        return heap

    def _open_numbers(self, shut):
        return [number for number in range(len(self._kinds)) if not shut >> number & 1]

    def _closing(self, number, shut):
        """A dict from the masks of what is shut then to heaps of single segments that shut something new."""
        found = {}
        for row, mask, term in self._kinds[number][1]:
            if mask | shut != shut:
                found.setdefault(mask | shut, {}).setdefault(row, ((number, 1, term),))
        return found

    def above(self, shut, used):
        """The heap of what can stand above when just this is shut.

        used has for each number that can come how many segments of its handler stand below that shut
        something new, 0 for each that is shut.
        """
        if (shut, used) not in self._above:
            heaps = [self._bulk(shut, used, self._open_numbers(shut))]
            for number in self._open_numbers(shut):
                if used[number] < self._kinds[number][0]:
                    more = (*used[:number], used[number] + 1, *used[number + 1:])
                    for closed, heads in self._closing(number, shut).items():
                        heaps.append(self._closed(shut, more, closed, self._least(heads)))
            self._above[shut, used] = self._joined(heaps)
        return self._above[shut, used]

    def _closed(self, shut, used, closed, heads):
        """The heap with one of the heads, by which more is closed, between what is below it and above it."""
        last = [number for number in self._open_numbers(shut) if closed >> number & 1]
        later = tuple([0 if closed >> number & 1 else many for number, many in enumerate(used)])
        return self._upon(self._upon(self._bulk(shut, used, last), heads), self.above(closed, later))

    def whole(self):
        """The heap of the house; the first pile is the task's."""
        first = {}
        for row, mask, term in self._task_terms:
            first.setdefault(mask, {})[row] = ((None, 1, term),)
        none_used = tuple([0 for _ in self._kinds])
        heaps = [self._upon(self._least(tasks), self.above(mask, none_used)) for mask, tasks in first.items()]
        return self._joined(heaps)
