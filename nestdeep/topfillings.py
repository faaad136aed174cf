"""For each kind of a hole a filling that fits and has the most of its cells.

A present kind more and a cell more never make a house less deep, and where it is asked that
something was called, fewer cells ask for less. So for each kind the other ones are tried with 0
cells, and only as many of them as are needed.
"""

from nestdeep.callbacks import is_part
from nestdeep.errors import NotClosed
from nestdeep.frames import size_of


def join_of(fillings):
    """The filling with all kinds of these, each with the greatest of its cells."""
    found = {}
    for filling in fillings:
        for name, cells in filling.items():
            found[name] = max(found.get(name, 0), cells)
    return found


def _parts_of(names):
    """The list of all tuples of some of the names, shorter ones first."""
    found = [()]
    for name in names:
        found = found + [(*one, name) for one in found]
    return sorted(found, key=lambda one: (len(one), one))


def _lines_if_closed(hole_house, filling):
    """The lines with a filling, None if it is endless then, () if the filling is not closed."""
    try:
        return hole_house.lines(filling)
    except NotClosed:
        return ()


def _most_in(lines, sizes, limit, name):
    """The most cells of a kind in these lines; limit + 1 if there is no most."""
    most = limit + 1
    for line in lines:
        count = dict(line).get(name, 0)
        if count > 0:
            left = limit - sum([many * sizes[frame] for frame, many in line if frame != name])
            most = min(most, left // count)
    return most


def _is_kept(lines, sizes, limit):
    """Whether these are lines, and none is greater than the limit."""
    return lines is not None and max([size_of(line, sizes) for line in lines]) <= limit


def _filled(present, name, cells):
    """The filling with so many cells of a kind and none of the other ones that are present."""
    return {other: cells if other == name else 0 for other in present}


def _best_filling(hole_house, sizes, limit, name):
    """A filling that fits with the most cells of a kind, limit + 1 if there is no most; None if it is in none."""
    others = [kind[0] for kind in hole_house.hole.kinds if kind[0] != name]
    enough = []
    best = None
    for part in _parts_of(others):
        present = (*part, name)
        lines = _lines_if_closed(hole_house, _filled(present, name, 0))
        # With more kinds than are enough it is deeper; no house has no lines.
        if lines == () or [one for one in enough if is_part(one, part)]:
            continue
        if not _is_kept(lines, sizes, limit):
            enough.append(part)
            continue
        best = best if best is not None else _filled(present, name, 0)
        lines = _lines_if_closed(hole_house, _filled(present, name, 1))
        if lines != ():
            enough.append(part)
            most = 0 if lines is None else _most_in(lines, sizes, limit, name)
            best = _filled(present, name, most) if most > best[name] else best
    return best


def best_fillings(hole_house, sizes, limit):
    """A dict to such fillings from all kinds that are present in a filling that fits."""
    names = [kind[0] for kind in hole_house.hole.kinds]
    found = {name: _best_filling(hole_house, sizes, limit, name) for name in names}
    return {name: filling for name, filling in found.items() if filling is not None}
