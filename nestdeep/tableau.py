"""A linear program, solved by exact pivots over integers.

Prices from 0 on are sought at which a wanted line is worth the most, while no line of a list is
worth more than 1. If the wanted line cannot be worth more than 1, what each line of the list
holds back are the weights of a mix that covers it; otherwise the prices part it from the list.
"""


class Tableau:
    """Variables are told by some of them, the columns, which are 0 now.

    The variables are numbered: first the prices of the frames, then how much is left to 1 of each
    line of the list. The variable basis[k] is what rows[k] tells, divided by bottom: the first
    number, and the others times the columns. goal tells what the wanted line is worth.
    """

    def __init__(self, wanted, held):
        self.bottom = 1
        self.goal = [0, *wanted]
        self.rows = [[1] + [-count for count in counts] for counts in held]
        self.columns = list(range(len(wanted)))
        self.basis = [len(wanted) + at for at in range(len(held))]
        self.is_stuck = False

    def entering(self):
        """The column by which the goal grows the fastest, None if there is none.

        Behind a pivot that gained nothing it is the one of the first variable by which the goal
        grows: as the first of several variables leaves, too, no basis can then recur.
        """
        growing = [at for at in range(len(self.columns)) if self.goal[at + 1] > 0]
        if not growing:
            return None
        if self.is_stuck:
            return min([(self.columns[at], at) for at in growing])[1]
        return max([(self.goal[at + 1], at) for at in growing])[1]

    def leaving(self, column):
        """The row that holds a column back the most; each frame is in a line, so there is one."""
        best = None
        for at, row in enumerate(self.rows):
            if row[column + 1] < 0 and (best is None or self._is_closer(at, best, column + 1)):
                best = at
        return best

    def _is_closer(self, at, best, item):
        """Whether a row reaches 0 ahead of the best one; of equals the first variable leaves."""
        row, other = self.rows[at], self.rows[best]
        mine, its = row[0] * other[item], other[0] * row[item]
        return mine > its or (mine == its and self.basis[at] < self.basis[best])

    def pivot(self, at, column):
        """Let the variable of a column and that of a row change places."""
        told = self.rows[at]
        bottom = -told[column + 1]
        self.is_stuck = told[0] == 0
        self.goal = self._told_anew(self.goal, told, column + 1)
        self.rows = [self._told_anew(row, told, column + 1) for row in self.rows]
        self.rows[at] = list(told)
        self.rows[at][column + 1] = -self.bottom
        self.bottom = bottom
        self.basis[at], self.columns[column] = self.columns[column], self.basis[at]

    def _told_anew(self, row, told, item):
        """A row when the column is replaced by what told tells of it; the division is exact."""
        top, many = -told[item], row[item]
        new = [(top * one + many * other) // self.bottom for one, other in zip(row, told)]
        new[item] = -many
        return new

    def price_tops(self, prices):
        """The tops, over bottom, of the first variables, which are so many prices."""
        tops = [0] * prices
        for variable, row in zip(self.basis, self.rows):
            if variable < prices:
                tops[variable] = row[0]
        return tops
