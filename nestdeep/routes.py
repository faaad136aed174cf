"""Ways to the terms of a plan, found by what the forms of its parts have.

A goal is a tuple (tag, shut, returned, row) that is in a packed form: some term of the parts, put
on an end of what comes ahead, is just this goal.
"""

from nestdeep.callbacks import callback_of
from nestdeep.codes import CALLS, END
from nestdeep.hulls import minus, scaled


def has_goal(form, goal):
    """Whether a packed form has this goal."""
    tag, shut, returned, row = goal
    return row in form[1].get(tag, {}).get((shut, returned), [])


def _parted(earlier, many, form, goal):
    """An end, and a goal of a form, which put on so many times the end is this goal; None if there is none.

    earlier are the groups of the ends.
    """
    tag, shut, returned, row = goal
    for (more, back), rows in form[1].get(tag, {}).items():
        for (before, came), others in earlier.items():
            if before | more == shut and came | back == returned:
                for other in others:
                    rest = minus(row, scaled(other, many))
                    if rest is not None and rest in rows:
                        return (END, before, came, other), (tag, more, back, rest)
    return None


def _ends(form):
    return form[1].get(END, {})


def _loop_route(statement, plan, goal):
    """The step or the stop of a loop, whose body has this plan, that reaches a goal of its form."""
    rounds = statement[1]
    tag, shut, returned, row = goal
    if tag == END:
        if (shut, returned) == (0, 0) and not [count for count in row if count > 0]:
            return ()
        for other in _ends(plan.result)[(shut, returned)]:
            if scaled(other, rounds) == row:
                return ((rounds, route(plan, (END, shut, returned, other))),)
    if has_goal(plan.result, goal):
        return (), route(plan, goal)
    end, last = _parted(_ends(plan.result), rounds - 1, plan.result, goal)
    return ((rounds - 1, route(plan, end)),), route(plan, last)


def route_in_room(plan, goal):
    """The step or the stop of a room, whose body has this plan, that reaches a goal of its form."""
    if goal[0] != END:
        return route(plan, goal)
    ends = [(shut, rows) for (shut, returned), rows in _ends(plan.result).items() if returned == goal[2]]
    shut, rows = ends[0]
    return route(plan, (END, shut, goal[2], rows[0]))


def _inner_route(statement, plans, goal):
    """The step or the stop of a statement with bodies that reaches a goal of its form."""
    if statement[0] == "room":
        return route_in_room(plans[0], goal)
    if statement[0] == "loop":
        return _loop_route(statement, plans[0], goal)
    side = 0 if has_goal(plans[0].result, goal) else 1
    return side, route(plans[side], goal)


def _end_ahead_of_call(ends, bit, goal):
    """The end behind which a call that comes back leads to the goal, an end."""
    _, shut, returned, row = goal
    for back in (returned, returned & ~bit):
        if row in ends.get((shut, back), []):
            return END, shut, back, row
    return None


def _end_ahead_of_shut(ends, more, goal):
    """The end behind which a shut leads to the goal, an end."""
    _, shut, returned, row = goal
    for (before, back), rows in ends.items():
        if before | more == shut and back == returned and row in rows:
            return END, before, back, row
    return None


def _end_ahead(plan, at, goal):
    """The end ahead of a statement without bodies that leads to the goal, an end, when it is passed."""
    statement, ends = plan.block[at], _ends(plan.beginnings[at])
    _, shut, returned, row = goal
    if statement[0] == "take":
        return END, shut, returned, minus(row, plan.codes.row_of(((statement[2], statement[1]),)))
    if statement[0] == "shut":
        return _end_ahead_of_shut(ends, plan.codes.shut_mask(statement[1]), goal)
    return _end_ahead_of_call(ends, plan.codes.callback_mask([callback_of(statement)]), goal)


def _steps(plan, many, goal):
    """The steps through so many first statements that reach a goal, an end, of their form."""
    steps = []
    for at in range(many - 1, -1, -1):
        if plan.wholes[at] is None:
            steps.append(None)
            goal = _end_ahead(plan, at, goal)
        else:
            goal, last = _parted(_ends(plan.beginnings[at]), 1, plan.wholes[at], goal)
            steps.append(_inner_route(plan.block[at], plan.inner[at], last))
    return tuple(reversed(steps))


def _first_with(plan, goal):
    """How many first statements are needed for a goal that is no end."""
    return [at for at, form in enumerate(plan.beginnings) if has_goal(form, goal)][0]


def route(plan, goal):
    """A way through the body of a plan that reaches a goal of its form."""
    tag, shut, returned, row = goal
    if tag == END:
        return _steps(plan, len(plan.block), goal), "end"
    many = _first_with(plan, goal)
    if many == 0:
        return (), "now"
    at = many - 1
    if plan.wholes[at] is not None:
        end, last = _parted(_ends(plan.beginnings[at]), 1, plan.wholes[at], goal)
        return _steps(plan, at, end), _inner_route(plan.block[at], plan.inner[at], last)
    if tag >= CALLS:
        return _steps(plan, at, (END, shut, returned, row)), "call"
    end = _end_ahead(plan, at, (END, shut, returned, row))
    return (*_steps(plan, at, end), None), "now"


def _first_end(form, allowed):
    """An end of a form whose returned lies within the allowed ones, None if there is none."""
    for (shut, returned), rows in _ends(form).items():
        if returned | allowed == allowed:
            return END, shut, returned, rows[0]
    return None


def _growing_round(plan, allowed):
    """A way to the end of a plan's body, by what is allowed, that takes something; None if there is none."""
    for (shut, returned), rows in _ends(plan.result).items():
        taking = [row for row in rows if row != plan.codes.nothing]
        if taking and returned | allowed == allowed:
            return route(plan, (END, shut, returned, taking[0]))
    return None


def _endless_within(statement, plans, allowed):
    """The stop and the round of a loop within a statement, as in endless_route, or None."""
    for side, plan in enumerate(plans):
        found = endless_route(plan, allowed)
        if found is not None:
            stops = {"room": found[0], "either": (side, found[0]), "loop": ((), found[0])}
            return stops[statement[0]], found[1]
    return None


def endless_route(plan, allowed):
    """A way to a loop without a bound, and a round of it that takes something; None if there is none.

    Only the allowed callbacks, a mask, come back. What stands ahead of the first such loop is not
    endless by them, so the forms have the ends that are needed.
    """
    for at, statement in enumerate(plan.block):
        end = _first_end(plan.beginnings[at], allowed)
        if end is None:
            return None
        found = _endless_within(statement, plan.inner[at], allowed)
        if found is None and statement[:2] == ("loop", None):
            around = _growing_round(plan.inner[at][0], allowed)
            found = None if around is None else ("now", around)
        if found is not None:
            return (_steps(plan, at, end), found[0]), found[1]
    return None
