"""Whether a claim of a house holds: its fault is looked for item by item, nothing is reckoned anew."""

from nestdeep.claims import claim_fault
from nestdeep.frames import frames_in, size_of
from nestdeep.functions import is_name_set
from nestdeep.houselines import open_interrupts
from nestdeep.values import is_count, is_tuple_of


def claimed_functions(house):
    """The sorted list of the task and the functions of the handlers of the interrupts that count."""
    return sorted(set([house.task, *[house.handler(interrupt)[0] for interrupt in open_interrupts(house)]]))


def claims_fault(house, value):
    """The first fault of a value in its claims of the functions, None if there is none."""
    if not is_tuple_of(value, 2) or not isinstance(value[0], dict) or not isinstance(value[1], dict):
        return "claim", None
    claims = value[0]
    functions = claimed_functions(house)
    if len(claims) != len(functions) or not all([isinstance(key, str) and key in functions for key in claims]):
        return "claim", None
    frames = house.program.frames()
    for name in functions:
        if claim_fault(house.program, name, claims[name]) is not None:
            return "function", name
        form = claims[name][name, ()]
        if form.endless or [frame for frame in frames_in([term[0] for term in form.terms]) if frame not in frames]:
            return "function", name
    return None


class BoundCheck:
    """Looks at bounds, a dict, for claims that hold, at sizes."""

    def __init__(self, house, sizes, claims, bounds):
        self._house = house
        self._sizes = sizes
        self._claims = claims
        self._bounds = bounds
        self._interrupts = open_interrupts(house)
        self._times = {interrupt: house.handler(interrupt)[1] for interrupt in self._interrupts}
        self._bulks = {}
        self._places = {}

    def _places_of(self, function, closed):
        """The list of tuples (term, size, what is shut there) of the "now" terms claimed for a function."""
        places = []
        for term in self._claims[function][function, ()].terms:
            if term[2] == "now":
                shut = [name for name in self._interrupts if name in term[1] or name in closed]
                places.append((term, size_of(term[0], self._sizes), shut))
        return places

    def _handler_places(self, interrupt):
        function, _, closed = self._house.handler(interrupt)
        return self._places_of(function, closed)

    def _is_pair(self, value):
        if not is_tuple_of(value, 2) or not isinstance(value[0], str) or value[0] not in self._times:
            return False
        return is_count(value[1], 1) and value[1] <= self._times[value[0]]

    def _is_state(self, value):
        if not is_tuple_of(value, 2) or not is_name_set(value[0]) or not isinstance(value[1], tuple):
            return False
        shut, used = value
        if not all([name in self._times for name in shut]) or not all([self._is_pair(pair) for pair in used]):
            return False
        return all([used[at][0] < used[at + 1][0] for at in range(len(used) - 1)])

    def fault(self, limit):
        """The first fault of the bounds for a limit, None if there is none."""
        for state in self._bounds:
            if not self._is_state(state) or not is_count(self._bounds[state], 0):
                return "states", None
        for term, size, shut in self._places_of(self._house.task, ()):
            bound = self._bounds.get((tuple(shut), ()))
            if bound is None or bound + size > limit:
                return "limit", term
        self._places = {interrupt: self._handler_places(interrupt) for interrupt in self._interrupts}
        for state in sorted(self._bounds):
            found = self._fault_at(state)
            if found is not None:
                return found
        return None

    def _bulk(self, interrupt, shut):
        """The greatest size of a segment that shuts nothing but this."""
        if (interrupt, shut) not in self._bulks:
            sizes = [size for _, size, closed in self._places[interrupt] if all([name in shut for name in closed])]
            self._bulks[interrupt, shut] = max([0, *sizes])
        return self._bulks[interrupt, shut]

    def _piled(self, interrupts, shut, used):
        """The size of all segments left of these interrupts that shut nothing but this."""
        rests = [(self._times[name] - used.get(name, 0), name) for name in interrupts]
        return sum([rest * self._bulk(name, shut) for rest, name in rests])

    def _fault_at(self, state):
        """The fault of the bound of a state, None if it holds."""
        shut, used = state
        counts = dict(used)
        free = [name for name in self._interrupts if name not in shut]
        if self._bounds[state] < self._piled(free, shut, counts):
            return "bulk", state
        for interrupt in free:
            if counts.get(interrupt, 0) < self._times[interrupt]:
                wrong = self._wrong_term(state, interrupt, {**counts, interrupt: counts.get(interrupt, 0) + 1})
                if wrong is not None:
                    return "closer", state, interrupt, wrong
        return None

    def _wrong_term(self, state, interrupt, counts):
        """The first term claimed of an interrupt that shuts something new, and that the bound does not allow."""
        shut, _ = state
        used = tuple(sorted(counts.items()))
        for term, size, closed in self._places[interrupt]:
            new = [name for name in closed if name not in shut]
            if new:
                bound = self._bounds.get((tuple(sorted([*shut, *new])), used))
                if bound is None or bound + size + self._piled(new, shut, counts) > self._bounds[state]:
                    return term
        return None
