"""The forms of bodies, and how they are made of the forms of their parts."""

from nestdeep.codes import codes_of_forms
from nestdeep.errors import TooMany
from nestdeep.formchecks import MOST_CALLBACKS
from nestdeep.forms import form_of_pack
from nestdeep.functions import statements
from nestdeep.packs import eithered, how_many, roomed, turned
from nestdeep.plans import MOST_TERMS, checked_plan, codes_of_statements


def body_plan(body):
    """The plan of any body."""
    rows = [statement for _, statement in statements(body)]
    return checked_plan(codes_of_statements(rows), body)


def body_form(body):
    """The form of a body."""
    plan = body_plan(body)
    return form_of_pack(plan.codes, plan.result)


def function_form(function):
    """The form of the body of a function, performed as a room."""
    name, _, body = function
    try:
        plan = body_plan(body)
    except TooMany as error:
        raise TooMany(name) from error
    return form_of_pack(plan.codes, roomed(plan.result, plan.codes.nothing))


def check_callbacks(codes):
    """Raise TooMany(None) if there are more callbacks than a form can have."""
    if len(codes.called) > MOST_CALLBACKS:
        raise TooMany(None)


def made_form(codes, form):
    """The Form of a packed form that was made of others; TooMany(None) if it has too many terms."""
    if how_many(form) > MOST_TERMS:
        raise TooMany(None)
    return form_of_pack(codes, form)


def in_turn(first, second):
    """The form of two bodies, one behind the other."""
    codes = codes_of_forms([first, second])
    check_callbacks(codes)
    return made_form(codes, turned(codes.packed(first), codes.packed(second)))


def either(first, second):
    """The form of an either of two bodies."""
    codes = codes_of_forms([first, second])
    check_callbacks(codes)
    return made_form(codes, eithered(codes.packed(first), codes.packed(second)))


def room(form):
    """The form of a room."""
    codes = codes_of_forms([form])
    return made_form(codes, roomed(codes.packed(form), codes.nothing))
