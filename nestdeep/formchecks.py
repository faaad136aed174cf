"""What makes callbacks, endless sets and terms a form: the checks, in the order of the document."""

from nestdeep.callbacks import callback_key, is_callback, is_callback_set, is_part, sets_in_order
from nestdeep.codes import Codes
from nestdeep.covering import PLAIN_TAGS, is_term_mixed, term_key
from nestdeep.errors import InvalidForm
from nestdeep.packs import how_many, least_groups
from nestdeep.terms import is_term

MOST_CALLBACKS = 8
START = ((), (), "now", ())


def first_wrong_callback(callbacks):
    """The number of the first item that cannot stand in a form's callbacks, None if there is none."""
    for at, callback in enumerate(callbacks):
        if not is_callback(callback) or at == MOST_CALLBACKS:
            return at
        if at > 0 and callback_key(callback) <= callback_key(callbacks[at - 1]):
            return at
    return None


def _check_callbacks(callbacks):
    if not isinstance(callbacks, tuple):
        raise InvalidForm("callbacks", None)
    wrong = first_wrong_callback(callbacks)
    if wrong is not None:
        raise InvalidForm("callbacks", callbacks[wrong])


def is_set_of(callbacks, value):
    """Whether this is a tuple of some of the callbacks, in callback order."""
    return is_callback_set(value) and is_part(value, callbacks)


def _check_endless(callbacks, endless):
    if not isinstance(endless, tuple):
        raise InvalidForm("endless", None)
    for value in endless:
        if not is_set_of(callbacks, value):
            raise InvalidForm("endless", value)
    if endless != sets_in_order(endless):
        raise InvalidForm("endless", endless)


def is_term_of(callbacks, value):
    """Whether this is a term that has no other callbacks."""
    if not is_term(value):
        return False
    _, _, tag, returned = value
    return (tag in PLAIN_TAGS or tag in callbacks) and is_part(returned, callbacks)


def _check_terms(callbacks, terms):
    if not isinstance(terms, tuple):
        raise InvalidForm("terms", None)
    for value in terms:
        if not is_term_of(callbacks, value):
            raise InvalidForm("terms", value)


def _check_order(terms):
    keys = [term_key(term) for term in terms]
    for at in range(1, len(terms)):
        if keys[at] <= keys[at - 1]:
            raise InvalidForm("order", terms[at])


def _check_least(callbacks, terms):
    """Check terms that are different."""
    if len(terms) < 2:
        return
    codes = Codes(
        [frame for term in terms for frame, _ in term[0]], [name for term in terms for name in term[1]], callbacks)
    table = codes.table_of(terms)
    if how_many(([], {tag: least_groups(groups) for tag, groups in table.items()})) == len(terms):
        return
    for term in terms:
        if is_term_mixed(term, [other for other in terms if other != term]):
            raise InvalidForm("least", term)


def contains_any(sets, callbacks):
    """Whether one of the sets lies within the callbacks."""
    return len([one for one in sets if is_part(one, callbacks)]) > 0


def _check_under(endless, terms):
    for term in terms:
        if contains_any(endless, term[3]):
            raise InvalidForm("under", term)


def _check_calls(terms):
    for term in terms:
        line, shut, tag, returned = term
        if tag not in PLAIN_TAGS and not is_term_mixed((line, shut, "now", returned), terms):
            raise InvalidForm("call", term)


def _is_closed(callbacks, terms):
    """Whether the callbacks can have come back: each one was called when only others had."""
    ahead = []
    grown = True
    while grown:
        found = [term[2] for term in terms if term[2] in callbacks and is_part(term[3], ahead)]
        more = [callback for callback in found if callback not in ahead]
        grown = len(more) > 0
        ahead.extend(more)
    return is_part(callbacks, ahead)


def _check_closed(endless, terms):
    for callbacks in [*endless, *[term[3] for term in terms]]:
        if not _is_closed(callbacks, terms):
            raise InvalidForm("closed", callbacks)


def check_form(callbacks, endless, terms):
    """Raise InvalidForm with the first problem of what shall be a form, if there is one."""
    _check_callbacks(callbacks)
    _check_endless(callbacks, endless)
    _check_terms(callbacks, terms)
    _check_order(terms)
    _check_least(callbacks, terms)
    _check_under(endless, terms)
    _check_calls(terms)
    if () not in endless and not is_term_mixed(START, terms):
        raise InvalidForm("start", None)
    _check_closed(endless, terms)
