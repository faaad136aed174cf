"""For each kind of a hole a filling that fits and has the most of its cells.

A present kind more and a cell more never make a house less deep, and the kinds of several closed
fillings together are closed. So for each kind the other ones are tried with 0 cells, and only as
many of them as are needed to be closed.
"""

from nestdeep.callbacks import is_part
from nestdeep.errors import NotClosed
from nestdeep.frames import size_of


def join_of(fillings):
    """The filling with all kinds of these, each with the greatest of its cells."""
    found = {}
    for filling in fillings:
        for name, cells in filling.items():
            found[name] = max(found.get(name, 0), cells)
    return found


def _parts_of(names):
    """The list of all tuples of some of the names, shorter ones first."""
    found = [()]
    for name in names:
        found = found + [(*one, name) for one in found]
    return sorted(found, key=lambda one: (len(one), one))


def _lines_at_least(hole_house, present):
    """The lines when these kinds are present with 0 cells, None if it is endless then, () if this is not closed."""
    try:
        return hole_house.lines({name: 0 for name in present})
    except NotClosed:
        return ()


def _most_with(hole_house, sizes, limit, present, name):
    """The most cells of a kind when these kinds fit, with 0 cells of all others; limit + 1 if there is no most."""
    lines = hole_house.lines({other: 1 if other == name else 0 for other in present})
    if lines is None:
        return 0
    most = limit + 1
    for line in lines:
        count = dict(line).get(name, 0)
        if count > 0:
            left = limit - sum([many * sizes[frame] for frame, many in line if frame != name])
            most = min(most, left // count)
    return most


def _best_filling(hole_house, sizes, limit, name):
    """A filling that fits with the most cells of a kind, limit + 1 if there is no most; None if it is in none."""
    others = [kind[0] for kind in hole_house.hole.kinds if kind[0] != name]
    closed = []
    best = None
    for part in _parts_of(others):
        # What is closed already is less deep without more kinds.
        if [one for one in closed if is_part(one, part)]:
            continue
        present = (*part, name)
        lines = _lines_at_least(hole_house, present)
        if lines == ():
            continue
        closed.append(part)
        if lines is not None and max([size_of(line, sizes) for line in lines]) <= limit:
            most = _most_with(hole_house, sizes, limit, present, name)
            if best is None or most > best[name]:
                best = {other: most if other == name else 0 for other in present}
    return best


def best_fillings(hole_house, sizes, limit):
    """A dict to such fillings from all kinds that are present in a filling that fits."""
    names = [kind[0] for kind in hole_house.hole.kinds]
    found = {name: _best_filling(hole_house, sizes, limit, name) for name in names}
    return {name: filling for name, filling in found.items() if filling is not None}
