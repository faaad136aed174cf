"""Holes: functions that are still to be written, and the greatest that can stand in their place."""

from nestdeep.callbacks import sets_in_order
from nestdeep.errors import InvalidFilling, InvalidHole, InvalidProgram, NoneFits, NotClosed
from nestdeep.fillings import FilledHouses, form_of_pattern, is_filling, pattern_of
from nestdeep.frames import check_limit, check_sizes
from nestdeep.functions import are_args, is_name, is_name_set
from nestdeep.house import House
from nestdeep.mixes import greatest
from nestdeep.programs import Program
from nestdeep.topfillings import best_fillings, join_of
from nestdeep.values import is_list, is_tuple_of

MOST_KINDS = 4


def _are_all_among(names, value):
    """Whether this is a sorted tuple of some of the names."""
    return is_name_set(value) and all([name in names for name in value])


def _are_least_sets(params, value):
    """Whether this is a list of sets of parameters that are their own least sets, in that order."""
    if not is_list(value) or not all([_are_all_among(params, one) for one in value]):
        return False
    return sets_in_order(value) == tuple(value)


def _is_kind(params, value):
    if not is_tuple_of(value, 4):
        return False
    name, shut, tag, returned = value
    if not is_name(name) or not is_name_set(shut) or not isinstance(tag, str):
        return False
    return (tag == "now" or tag in params) and _are_all_among(params, returned)


def _are_kinds(params, value):
    """Whether this is a list of at most four kinds, no two with one name or with all the rest alike."""
    if not is_list(value) or len(value) > MOST_KINDS or not all([_is_kind(params, kind) for kind in value]):
        return False
    return len(set([kind[0] for kind in value])) == len(value) == len(set([kind[1:] for kind in value]))


def _check_hole(name, params, returns, endless, kinds):
    if not is_name(name):
        raise InvalidHole("name", name)
    if not are_args(params) or len(set(params)) < len(params):
        raise InvalidHole("params", params)
    if not _are_least_sets(params, returns):
        raise InvalidHole("returns", returns)
    if not _are_least_sets(params, endless):
        raise InvalidHole("endless", endless)
    if not _are_kinds(params, kinds):
        raise InvalidHole("kinds", kinds)


class Hole:
    """A function without a body: when it returns, when it is endless, and the kinds of terms that it may have."""

    def __init__(self, name, params=(), *, returns=(), endless=(), kinds=()):
        _check_hole(name, params, returns, endless, kinds)
        self.name = name
        self.parameters = params
        self._more = (tuple(returns), tuple(endless), tuple(kinds))
        self._made = {}

    @property
    def returns(self):
        """The tuple of the least sets of parameters that must return so that the hole does."""
        return self._more[0]

    @property
    def endless(self):
        """The tuple of the least sets of parameters that make the hole endless."""
        return self._more[1]

    @property
    def kinds(self):
        """The tuple of the kinds (name, shut, tag, returned)."""
        return self._more[2]

    def form_of(self, filling):
        """The form of a filling."""
        if not is_filling(self.kinds, filling):
            raise InvalidFilling(filling)
        pattern = pattern_of(self.kinds, filling)
        if pattern not in self._made:
            self._made[pattern] = form_of_pattern(self, pattern)
        return self._made[pattern]

    def __eq__(self, other):
        if not isinstance(other, Hole):
            return False
        return self.name == other.name and self.parameters == other.parameters and self._more == other._more

    def _more_text(self):
        return f"returns={self._more[0]!r}, endless={self._more[1]!r}, kinds={self._more[2]!r}"

    def __repr__(self):
        return f"Hole({self.name!r}, {self.parameters!r}, {self._more_text()})"


class HoleHouse:
    """A house with a hole among its functions."""

    def __init__(self, functions, hole, task, handlers=None, *, shut=()):
        if not is_list(functions):
            raise InvalidProgram("functions", "")
        program = Program([*functions, (hole.name, hole.parameters, ())])
        frames = program.frames()
        for kind in hole.kinds:
            if kind[0] in frames:
                raise InvalidHole("kinds", kind)
        self.hole = hole
        self.house = House(program, task, handlers, shut=shut)
        self._filled = FilledHouses(self.house, hole)

    def lines(self, filling):
        """The sorted tuple of the lines with a filling in the hole, None if it is endless then."""
        form = self.hole.form_of(filling)
        return self._filled.lines(pattern_of(self.hole.kinds, filling), form)


def _check_numbers(hole_house, sizes, limit):
    check_sizes(hole_house.house.program.frames(), sizes)
    check_limit(limit)


def filling_fault(hole_house, sizes, limit, filling):
    """Why a filling does not fit, None if it does."""
    _check_numbers(hole_house, sizes, limit)
    try:
        lines = hole_house.lines(filling)
    except NotClosed as error:
        return "closed", error.returned
    if lines is None:
        return "endless", None
    cells = {name: many for name, many in filling.items() if many > 0}
    size, line = greatest(lines, {**sizes, **cells})
    return None if size <= limit else ("depth", line)


def fits(hole_house, sizes, limit, filling):
    """Whether a filling keeps the limit."""
    return filling_fault(hole_house, sizes, limit, filling) is None


def joined(*fillings):
    """The filling with all kinds of these, each with the greatest of its cells."""
    return join_of(fillings)


def _told(cells, limit):
    """The most cells of a kind, None if there is no most: these are more than any line can have."""
    return None if cells > limit else cells


def most_cells(hole_house, sizes, limit):
    """A dict from the kinds to the greatest numbers of their cells in fillings that fit, None where there is none."""
    _check_numbers(hole_house, sizes, limit)
    found = best_fillings(hole_house, sizes, limit)
    return {name: _told(filling[name], limit) for name, filling in found.items()}


def _parted(hole_house, sizes, limit, fillings):
    """Two fillings that fit and whose join does not, if the join of all of these, which fit, does not."""
    below = fillings[0]
    for filling in fillings[1:]:
        together = join_of([below, filling])
        if not fits(hole_house, sizes, limit, together):
            return below, filling
        below = together
    return None


def greatest_filling(hole_house, sizes, limit):
    """(True, the greatest filling), or (False, two fillings that fit and whose join does not)."""
    _check_numbers(hole_house, sizes, limit)
    found = best_fillings(hole_house, sizes, limit)
    if not found and not fits(hole_house, sizes, limit, {}):
        raise NoneFits()
    parted = _parted(hole_house, sizes, limit, list(found.values())) if found else None
    if parted is not None:
        return False, parted
    return True, {name: _told(filling[name], limit) for name, filling in found.items()}
