"""Chains and rings, found by what the solver knows of all instances.

A goal of an instance is one of the packed form of its function (nestdeep.routes); a GOAL IN ALL is
one of the form of the instance, in which calls are performed. A STATE is a tuple of an instance
and a goal in all of it.
"""

from nestdeep.codes import CALLS, END, bits_of
from nestdeep.hulls import minus
from nestdeep.packs import has_any_within
from nestdeep.routes import endless_route, route_in_room
from nestdeep.walks import walk


def _rests(row, rows, ends):
    """The list of tuples (one of the rows, one of the ends) with this sum."""
    rests = [(other, minus(row, other)) for other in rows]
    return [(other, rest) for other, rest in rests if rest is not None and rest in ends]


class Chains:
    """Finds ways from an instance on, when of its parameters just the allowed ones, a mask, come back."""

    def __init__(self, solver, needed, allowed):
        self.solver = solver
        self.allowed = allowed
        # A dict from the instances that come back to ends of theirs, behind those that this needs.
        self.ready = {}
        grown = True
        while grown:
            grown = False
            for instance in needed:
                if instance not in self.ready and self._get_ready(instance):
                    grown = True

    def _may_return(self, target):
        """Whether a target of an instance comes back, as far as is known."""
        if isinstance(target, str):
            mask = self.solver.bodies.codes.callback_mask([target])
            return mask | self.allowed == self.allowed
        return target in self.ready

    def _get_ready(self, instance):
        """Whether an instance is now known to come back."""
        targets = self.solver.bodies.targets_of(instance)
        ends = self.solver.bodies.pack_for(instance[0])[1].get(END, {})
        for (shut, returned), rows in ends.items():
            if all([self._may_return(targets[at]) for at in bits_of(returned)]):
                self.ready[instance] = (END, shut, returned, rows[0])
                return True
        return False

    def way(self, instance, goal):
        """A way through the body of an instance's function to a goal of the instance."""
        return route_in_room(self.solver.bodies.plan_for(instance[0]), goal)

    def _passed(self, instance, way):
        """The instances whose calls a way passes."""
        return self._instances(instance, walk(self.solver.bodies.blocks[instance[0]], way)[3])

    def _instances(self, instance, callbacks):
        """The instances among the targets of these callbacks of an instance."""
        targets = [self.solver.bodies.target(instance, callback) for callback in callbacks]
        return [target for target in targets if not isinstance(target, str)]

    def _passed_in_ring(self, ring):
        """The instances whose calls the ways of a ring pass."""
        if ring[0] != "loop":
            return [target for instance, way in ring for target in self._passed(instance, way)]
        _, instance, way, around = ring
        found = walk(self.solver.bodies.blocks[instance[0]], way)
        return self._instances(instance, [*found[3], *walk(found[4][2], around)[3]])

    def returns_for(self, links, ring=()):
        """The returns of a chain with these links, or of a ring with these links ahead of it."""
        waiting = [target for instance, way in links for target in self._passed(instance, way)]
        waiting.extend(self._passed_in_ring(ring) if ring else [])
        ways = {}
        while waiting:
            instance = waiting.pop()
            if instance not in ways:
                ways[instance] = self.way(instance, self.ready[instance])
                waiting.extend(self._passed(instance, ways[instance]))
        return tuple([(instance, ways[instance]) for instance in self.ready if instance in ways])

    def _groups_of(self, instance):
        """The list of tuples (target, tag, groups) of the calls in an instance."""
        targets = self.solver.bodies.targets_of(instance)
        table = self.solver.bodies.pack_for(instance[0])[1]
        return [(targets[tag - CALLS], tag, groups) for tag, groups in table.items() if tag >= CALLS]

    def _own_goal(self, instance, goal):
        """The goal of an instance that leads to a goal in all without a call of an instance, or None."""
        tag, shut, returned, row = goal
        table = self.solver.bodies.pack_for(instance[0])[1]
        rows = [(number, groups) for number, groups in table.items() if number < CALLS]
        for target, number, groups in self._groups_of(instance):
            if isinstance(target, str):
                rows.append((number, groups))
        for number, groups in rows:
            if self._tag_in_all(instance, number) == tag:
                for (names, back), others in groups.items():
                    if names == shut and row in others and returned in self.solver.replaced(instance, back):
                        return number, names, back, row
        return None

    def _tag_in_all(self, instance, tag):
        """What a tag of an instance, "now", "end" or a parameter that is called, is in the form of it."""
        if tag < CALLS:
            return tag
        return self.solver.bodies.codes.tag_of[self.solver.bodies.targets_of(instance)[tag - CALLS]]

    def _steps_from(self, state):
        """The list of tuples (goal of the instance, next state) by which a state can be reached."""
        instance, (tag, shut, returned, row) = state
        found = []
        for target, number, groups in self._groups_of(instance):
            if isinstance(target, str):
                continue
            others = self.solver.tables[target].get(tag, {})
            for (names, back), rows in groups.items():
                for mask in self.solver.replaced(instance, back):
                    for (more, came), ends in others.items():
                        if names | more == shut and mask | came == returned:
                            for call_row, rest in _rests(row, rows, ends):
                                found.append(((number, names, back, call_row), (target, (tag, more, came, rest))))
        return found

    def links_to(self, instance, goal):
        """The links from an instance on that reach a goal in all, which is in the form of it."""
        first = (instance, goal)
        before = {first: None}
        waiting = [first]
        at = 0
        while at < len(waiting):
            state = waiting[at]
            at += 1
            last = self._own_goal(state[0], state[1])
            if last is not None:
                return self._links(before, state, last)
            for step, following in self._steps_from(state):
                if following not in before:
                    before[following] = (state, step)
                    waiting.append(following)
        return None

    def _links(self, before, state, last):
        """The links on the steps to a state, and from there to a goal of its instance."""
        links = [(state[0], self.way(state[0], last))]
        while before[state] is not None:
            state, step = before[state]
            links.append((state[0], self.way(state[0], step)))
        return tuple(reversed(links))

    def _live_calls(self, instance):
        """The list of tuples (goal of the instance, target) of the calls that come when what is allowed returned."""
        calls = []
        for target, number, groups in self._groups_of(instance):
            if not isinstance(target, str):
                for (names, back), rows in groups.items():
                    if has_any_within(self.solver.replaced(instance, back), self.allowed):
                        calls.extend([((number, names, back, row), target) for row in rows])
        return calls

    def _reached_from(self, first):
        """A dict from the instances that are called from the first one on to tuples (caller, goal of it)."""
        before = {first: None}
        waiting = [first]
        while waiting:
            instance = waiting.pop()
            for goal, target in self._live_calls(instance):
                if target not in before:
                    before[target] = (instance, goal)
                    waiting.append(target)
        return before

    def _path(self, before, last):
        """The links to the last one, which is reached so."""
        links = []
        while before[last] is not None:
            last, goal = before[last]
            links.append((last, self.way(last, goal)))
        return tuple(reversed(links))

    def _loop_ring(self, instance):
        """The ring of a loop in the body of an instance, None if there is none."""
        targets = self.solver.bodies.targets_of(instance)
        allowed = sum([1 << at for at, target in enumerate(targets) if self._may_return(target)])
        found = endless_route(self.solver.bodies.plan_for(instance[0]), allowed)
        return None if found is None else ("loop", instance, found[0], found[1])

    def _call_ring(self, instance):
        """The ring of calls from an instance back to it, with one that takes something; None if there is none."""
        for goal, target in self._live_calls(instance):
            if goal[3] != self.solver.bodies.codes.nothing:
                before = self._reached_from(target)
                if instance in before:
                    return ((instance, self.way(instance, goal)), *self._path(before, instance))
        return None

    def ring_from(self, first):
        """The links and the ring of a ring for an instance that is endless when what is allowed comes back."""
        before = self._reached_from(first)
        for instance in before:
            ring = self._loop_ring(instance)
            ring = self._call_ring(instance) if ring is None else ring
            if ring is not None:
                return self._path(before, instance), ring
        return None
