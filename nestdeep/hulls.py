"""Lines told by their counts: tuples of as many numbers as there are frames, in one sequence."""

from nestdeep.tableau import Tableau


def plus(row, other):
    """The sum of two tuples of counts."""
    return tuple([count + more for count, more in zip(row, other)])


def scaled(row, many):
    """A tuple of counts, so many times."""
    return tuple([count * many for count in row])


def minus(row, other):
    """What is left of a tuple of counts; None if the other one has more of something."""
    left = tuple([count - less for count, less in zip(row, other)])
    return None if [count for count in left if count < 0] else left


def is_below(row, other):
    """Whether the other one has of each frame at least as many."""
    for count, most in zip(row, other):
        if count > most:
            return False
    return True


def is_below_any(row, others):
    """Whether one of the others has of each frame at least as many."""
    for other in others:
        if is_below(row, other):
            return True
    return False


def prices_apart(wanted, rows):
    """Prices from 0 on at which the wanted one is worth more than each one of the rows; None if they cover it."""
    used = [at for at, count in enumerate(wanted) if count > 0]
    for at in used:
        if max([row[at] for row in rows]) < wanted[at]:
            return {at: 1}
    tableau = Tableau([wanted[at] for at in used], [[row[at] for at in used] for row in rows])
    while tableau.goal[0] <= tableau.bottom:
        column = tableau.entering()
        if column is None:
            return None
        tableau.pivot(tableau.leaving(column), column)
    tops = tableau.price_tops(len(used))
    return {at: top for at, top in zip(used, tops) if top > 0}


def is_covered_row(wanted, rows):
    """Whether the rows, of which there may be none, cover the wanted one."""
    if is_below_any(wanted, rows):
        return True
    return len(rows) > 1 and len(wanted) > 1 and prices_apart(wanted, rows) is None


def _tops(rows):
    """The rows that lie below no other one, each once, the greatest first."""
    tops = []
    for row in reversed(sorted(set(rows))):
        if not is_below_any(row, tops):
            tops.append(row)
    return tops


def _is_inside(first, middle, last):
    """Whether the middle one of three tops for two frames lies on or below the line of the others."""
    across = (last[0] - first[0]) * (middle[1] - first[1])
    return across >= (last[1] - first[1]) * (middle[0] - first[0])


def _corners_of_two(tops):
    """The corners of the tops for two frames, which come with the greatest first count first."""
    chain = []
    for top in tops:
        while len(chain) > 1 and _is_inside(chain[-2], chain[-1], top):
            chain.pop()
        chain.append(top)
    return chain


def dearest(tops, prices):
    """The top that is worth the most; of several the greatest one, which is a corner then."""
    return max([(sum([top[at] * price for at, price in prices.items()]), top) for top in tops])[1]


def _corners(tops, most):
    """The tops that the other ones do not cover; if these are more than most, only some of them.

    Each top that the corners known so far do not cover is parted from them by prices, and what is
    worth the most at these prices is a new corner.
    """
    known = [dearest(tops, {at: 1 for at in range(len(tops[0]))})]
    for top in tops:
        while top not in known:
            prices = prices_apart(top, known)
            if prices is None:
                break
            known.append(dearest(tops, prices))
        if most is not None and len(known) > most:
            break
    return known


def _telling(rows):
    """The list of the numbers of the frames of which the rows have different counts."""
    return [at for at, counts in enumerate(zip(*rows)) if max(counts) > min(counts)]


def _only(row, frames):
    """The counts of some frames only."""
    return tuple([row[at] for at in frames])


def left_over(rows, helpers, most=None):
    """The list of those of one row or more that the others and the helpers do not cover, each once.

    If these are more than most, some of them are left out, but not so many that they are not more.
    """
    if len(rows) == 1 and not helpers:
        return list(rows)
    if len(rows[0]) < 3:
        return _left_over(rows, helpers, most)
    # Of a frame of which all rows have as much, each mix has as much, too.
    frames = _telling([*rows, *helpers])
    whole = {_only(row, frames): row for row in rows}
    return [whole[row] for row in _left_over(list(whole), [_only(row, frames) for row in helpers], most)]


def _left_over(rows, helpers, most):
    """What left_over tells, with all frames looked at."""
    if len(rows[0]) < 2:
        best = max(rows)
        return [] if helpers and max(helpers) >= best else [best]
    tops = _tops([*rows, *helpers])
    if len(tops) > 2:
        enough = None if most is None else most + len(helpers)
        tops = _corners_of_two(tops) if len(rows[0]) == 2 else _corners(tops, enough)
    if not helpers:
        return tops
    known = set(helpers)
    return [row for row in tops if row not in known]


def are_apart(rows, others):
    """Whether in no frame both the rows differ and the others do: then no sum is covered by the other sums.

    The rows do not cover one another, nor do the others.
    """
    frames = _telling(others)
    return not [at for at in _telling(rows) if at in frames]
