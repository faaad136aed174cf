"""Plans: the forms of all beginnings of a body, and of the bodies in it."""

from nestdeep.callbacks import callback_of, callbacks_in
from nestdeep.codes import END, Codes
from nestdeep.errors import TooMany
from nestdeep.formchecks import MOST_CALLBACKS
from nestdeep.functions import bodies_of
from nestdeep.packs import (
    behind_call, behind_shut, behind_stop, behind_take, eithered, how_many, looped, roomed, start, turned,
)

MOST_TERMS = 60


def codes_of_statements(rows):
    """Codes for all that stands in these statements."""
    return Codes(
        [statement[2] for statement in rows if statement[0] == "take"],
        [interrupt for statement in rows if statement[0] == "shut" for interrupt in statement[1]],
        callbacks_in(rows),
    )


def _whole(codes, statement, plans):
    """The packed form of a statement with bodies, which have these plans."""
    if statement[0] == "room":
        return roomed(plans[0].result, codes.nothing)
    if statement[0] == "either":
        return eithered(plans[0].result, plans[1].result)
    return looped(plans[0].result, statement[1], codes.nothing)


def _behind(codes, form, statement, whole):
    """The packed form of a body and of a statement behind it."""
    word = statement[0]
    if END not in form[1]:
        return form
    if word == "take":
        return behind_take(form, codes.row_of(((statement[2], statement[1]),)))
    if word == "shut":
        return behind_shut(form, codes.shut_mask(statement[1]))
    if word == "stop":
        return behind_stop(form)
    if whole is None:
        return behind_call(form, codes.tag_of[callback_of(statement)])
    return turned(form, whole, MOST_TERMS)


class Plan:
    """beginnings has the packed forms of the first k statements, for k from 0 on.

    For each statement inner has the plans of its bodies, and wholes its packed form, None if it has
    no bodies or is never come to. Raises TooMany(None) if a beginning, of the body or of one in it,
    has too many terms.
    """

    def __init__(self, codes, body):
        self.codes = codes
        self.block = body
        self.result = start(codes.nothing)
        self.beginnings = [self.result]
        self.inner = []
        self.wholes = []
        for statement in body:
            plans = tuple([Plan(codes, block) for block in bodies_of(statement)])
            # What is never come to needs no form of its own.
            whole = _whole(codes, statement, plans) if plans and END in self.result[1] else None
            self.result = _behind(codes, self.result, statement, whole)
            if how_many(self.result) > MOST_TERMS:
                raise TooMany(None)
            self.beginnings.append(self.result)
            self.inner.append(plans)
            self.wholes.append(whole)


def checked_plan(codes, body):
    """The plan of a body that has the callbacks of these codes; TooMany(None) if they are too many."""
    if len(codes.called) > MOST_CALLBACKS:
        raise TooMany(None)
    return Plan(codes, body)
