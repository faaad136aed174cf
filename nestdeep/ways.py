"""Ways through bodies: the terms that they reach, and ways to the terms of forms."""

from nestdeep.bodies import body_plan
from nestdeep.callbacks import in_callback_order
from nestdeep.errors import InvalidWay, UnknownTerm
from nestdeep.formchecks import is_term_of
from nestdeep.functions import check_body
from nestdeep.routes import has_goal, route
from nestdeep.walks import walk


def reach(body, way):
    """The term that a way through a body reaches."""
    check_body(body)
    found = walk(body, way)
    if found is None:
        raise InvalidWay(way)
    line, shut, tag, passed, _ = found
    return line, shut, tag, in_callback_order(passed)


def _is_known(codes, term):
    """Whether a term has no frames and no interrupts but those of the codes."""
    line, shut, _, _ = term
    if [frame for frame, _ in line if frame not in codes.frame_names]:
        return False
    return not [name for name in shut if name not in codes.shut_names]


def way_to(body, term):
    """A way through a body that reaches a term of its form."""
    plan = body_plan(body)
    if not is_term_of(plan.codes.called, term) or not _is_known(plan.codes, term):
        raise UnknownTerm(term)
    goal = plan.codes.packed_term(term)
    if not has_goal(plan.result, goal):
        raise UnknownTerm(term)
    return route(plan, goal)
