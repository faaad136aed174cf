"""A linear program, solved by exact pivots over integers.

Prices from 0 on are sought at which a wanted line is worth the most, while no line of a list is
worth more than 1. If the wanted line cannot be worth more than 1, what each line of the list
holds back are the weights of a mix that covers it; otherwise the prices part it from the list.
"""


class Tableau:
    """Variables are told by some of them, the columns, which are 0 now.

    The variables are numbered: first the prices of the frames, then how much is left to 1 of each
    line of the list. The variable basis[k] is what the k-th ones of counts tell, divided by bottom:
    the one of the first list, and the others times the columns. goal tells what the wanted line is worth.
    """

    def __init__(self, wanted, held):
        self.bottom = 1
        self.goal = [0, *wanted]
        self.counts = [[1 for _ in held]] + [[-row[at] for row in held] for at in range(len(wanted))]
        self.columns = list(range(len(wanted)))
        self.basis = [len(wanted) + at for at in range(len(held))]
        self.is_stuck = False

    def entering(self):
        """The column by which the goal grows the fastest, None if there is none.

        Behind a pivot that gained nothing it is the one of the first variable by which the goal
        grows: as the first of several variables leaves, too, no basis can then recur.
        """
        growing = [at for at in range(len(self.columns)) if self.goal[at + 1] > 0]
        if not growing:
            return None
        if self.is_stuck:
            return min([(self.columns[at], at) for at in growing])[1]
        return max([(self.goal[at + 1], at) for at in growing])[1]

    def leaving(self, column):
        """The number in the basis of what holds a column back the most; each frame is in a line, so there is one.

        Of those that reach 0 at once the first variable leaves.
        """
        best, most, least = None, 0, 0
        for at, (one, many) in enumerate(zip(self.counts[0], self.counts[column + 1])):
            if many < 0:
                ahead = 1 if best is None else one * least - most * many
                if ahead > 0 or (ahead == 0 and self.basis[at] < self.basis[best]):
                    best, most, least = at, one, many
        return best

    def pivot(self, at, column):
        """Let the variable of a column and that of the basis with this number change places."""
        told = [counts[at] for counts in self.counts]
        many, growth = self.counts[column + 1], self.goal[column + 1]
        top, bottom = -told[column + 1], self.bottom
        # So what was told of the variable of the basis is told of that of the column.
        put = [*many[:at], many[at] + bottom, *many[at + 1:]]
        self.counts = [self._told_anew(counts, top, put, other) for counts, other in zip(self.counts, told)]
        self.counts[column + 1] = [-more for more in many]
        self.counts[column + 1][at] = -bottom
        self.goal = [(top * one + growth * other) // bottom for one, other in zip(self.goal, told)]
        self.goal[column + 1] = -growth
        self.is_stuck = told[0] == 0
        self.bottom = top
        self.basis[at], self.columns[column] = self.columns[column], self.basis[at]

    def _told_anew(self, counts, top, put, other):
        """Counts when the column is replaced by what tells it; the divisions are exact."""
        if other != 0:
            return [(top * one + more * other) // self.bottom for one, more in zip(counts, put)]
        return counts if top == self.bottom else [top * one // self.bottom for one in counts]

    def price_tops(self, prices):
        """The tops, over bottom, of the first variables, which are so many prices."""
        tops = [0] * prices
        for variable, one in zip(self.basis, self.counts[0]):
            if variable < prices:
                tops[variable] = one
        return tops
