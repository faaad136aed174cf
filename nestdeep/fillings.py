"""What fillings of a hole make of a house, reckoned once for each pattern of its kinds.

The PATTERN of a filling has for each kind ABSENT, EMPTY (present with 0 cells) or FILLED: fillings
with one pattern have one form, and so one list of lines.
"""

from nestdeep.errors import InvalidForm, NotClosed, TooMany
from nestdeep.forms import Form
from nestdeep.houselines import endless_parts, house_forms, lines_with_piles
from nestdeep.instancebodies import InstanceBodies
from nestdeep.reckoner import Reckoner
from nestdeep.formchecks import contains_any
from nestdeep.terms import least_terms
from nestdeep.values import is_count

ABSENT = 0
EMPTY = 1
FILLED = 2


def is_filling(kinds, value):
    """Whether this is a dict from names of some of the kinds to integers from 0 on."""
    names = [kind[0] for kind in kinds]
    if not isinstance(value, dict) or not all([isinstance(name, str) and name in names for name in value]):
        return False
    return all([is_count(cells, 0) for cells in value.values()])


def pattern_of(kinds, filling):
    """The pattern of a filling."""
    cells = [filling.get(kind[0], -1) for kind in kinds]
    return tuple([ABSENT if many < 0 else EMPTY if many == 0 else FILLED for many in cells])


def _terms_of_kind(kind, state):
    """The terms that a kind stands for when it is present."""
    name, shut, tag, returned = kind
    line = ((name, 1),) if state == FILLED else ()
    terms = [(line, shut, "now", returned)]
    return terms if tag == "now" else [*terms, (line, shut, tag, returned)]


def form_of_pattern(hole, pattern):
    """The form of the fillings of a hole that have this pattern. Raises NotClosed."""
    terms = [((), (), "now", ()), *[((), (), "end", returned) for returned in hole.returns]]
    for kind, state in zip(hole.kinds, pattern):
        if state != ABSENT:
            terms.extend(_terms_of_kind(kind, state))
    left = [term for term in terms if not contains_any(hole.endless, term[3])]
    try:
        return Form(tuple(sorted(hole.parameters)), hole.endless, least_terms(left))
    except InvalidForm as error:
        raise NotClosed(error.value) from error


class FilledHouses:
    """The houses that a house with a hole becomes by fillings."""

    def __init__(self, house, hole):
        self._house = house
        self._hole = hole
        shut = [interrupt for kind in hole.kinds for interrupt in kind[1]]
        self._bodies = InstanceBodies(house.program, [kind[0] for kind in hole.kinds], shut)
        self._outcomes = {}

    def lines(self, pattern, form):
        """The sorted tuple of the lines with fillings of this pattern and form, None if it is endless then.

        Raises TooMany as lines_of.
        """
        if pattern not in self._outcomes:
            self._outcomes[pattern] = self._outcome(form)
        is_many, told = self._outcomes[pattern]
        if is_many:
            raise TooMany(told)
        return told

    def _outcome(self, form):
        """(True, of what there is too much) or (False, the lines)."""
        try:
            return False, self._lines_with(form)
        except TooMany as error:
            return True, error.name

    def _lines_with(self, form):
        reckoner = Reckoner(self._bodies.with_form(self._hole.name, form))
        forms = house_forms(self._house, reckoner)
        if endless_parts(self._house, forms):
            return None
        return tuple(sorted(lines_with_piles(self._house, forms, reckoner.bodies.codes)))
