"""What makes callbacks, endless sets and terms a form: the checks, in the order of the document."""

from nestdeep.callbacks import callback_key, is_callback, is_callback_set, is_part, sets_in_order
from nestdeep.codes import CALLS, NOW, codes_of_terms
from nestdeep.covering import PLAIN_TAGS, is_term_mixed, term_key
from nestdeep.errors import InvalidForm
from nestdeep.packs import covers, how_many, least_groups
from nestdeep.terms import is_term

MOST_CALLBACKS = 8


def first_wrong_callback(callbacks):
    """The number of the first item that cannot stand in a form's callbacks, None if there is none."""
    for at, callback in enumerate(callbacks):
        if not is_callback(callback) or at == MOST_CALLBACKS:
            return at
        if at > 0 and callback_key(callback) <= callback_key(callbacks[at - 1]):
            return at
    return None


def _check_callbacks(callbacks):
    if not isinstance(callbacks, tuple):
        raise InvalidForm("callbacks", None)
    wrong = first_wrong_callback(callbacks)
    if wrong is not None:
        raise InvalidForm("callbacks", callbacks[wrong])


def is_set_of(callbacks, value):
    """Whether this is a tuple of some of the callbacks, in callback order."""
    return is_callback_set(value) and is_part(value, callbacks)


def _check_endless(callbacks, endless):
    if not isinstance(endless, tuple):
        raise InvalidForm("endless", None)
    for value in endless:
        if not is_set_of(callbacks, value):
            raise InvalidForm("endless", value)
    if endless != sets_in_order(endless):
        raise InvalidForm("endless", endless)


def is_term_of(callbacks, value):
    """Whether this is a term that has no other callbacks."""
    if not is_term(value):
        return False
    _, _, tag, returned = value
    return (tag in PLAIN_TAGS or tag in callbacks) and is_part(returned, callbacks)


def _check_terms(callbacks, terms):
    if not isinstance(terms, tuple):
        raise InvalidForm("terms", None)
    for value in terms:
        if not is_term_of(callbacks, value):
            raise InvalidForm("terms", value)


def _check_order(terms):
    keys = [term_key(term) for term in terms]
    for at in range(1, len(terms)):
        if keys[at] <= keys[at - 1]:
            raise InvalidForm("order", terms[at])


def _check_least(terms, table):
    """Check terms that are different, and have this table."""
    if how_many(([], {tag: least_groups(groups) for tag, groups in table.items()})) == len(terms):
        return
    for term in terms:
        if is_term_mixed(term, [other for other in terms if other != term]):
            raise InvalidForm("least", term)


def contains_any(sets, callbacks):
    """Whether one of the sets lies within the callbacks."""
    return len([one for one in sets if is_part(one, callbacks)]) > 0


def _check_under(endless, terms):
    for term in terms:
        if contains_any(endless, term[3]):
            raise InvalidForm("under", term)


def _check_calls(terms, codes, table):
    for term in terms:
        tag, shut, returned, row = codes.packed_term(term)
        if tag >= CALLS and not covers(table, NOW, shut, returned, row):
            raise InvalidForm("call", term)


def _is_closed(mask, calls):
    """Whether these callbacks can have come back: each one was called when only others of them had."""
    ahead = 0
    grown = True
    while grown:
        grown = False
        for bit, returned in calls:
            if bit & mask and not bit & ahead and returned | ahead == ahead:
                ahead |= bit
                grown = True
    return ahead == mask


def _check_closed(endless, terms, codes, table):
    calls = [(1 << (tag - CALLS), returned) for tag, groups in table.items() if tag >= CALLS for _, returned in groups]
    known = {}
    for callbacks in [*endless, *[term[3] for term in terms]]:
        if callbacks not in known and not _is_closed(codes.callback_mask(callbacks), calls):
            raise InvalidForm("closed", callbacks)
        known[callbacks] = True


def _check_together(callbacks, endless, terms):
    """Check what the terms cover, and what they must cover."""
    codes = codes_of_terms(terms, callbacks)
    table = codes.table_of(terms)
    _check_least(terms, table)
    _check_under(endless, terms)
    _check_calls(terms, codes, table)
    if () not in endless and not covers(table, NOW, 0, 0, codes.nothing):
        raise InvalidForm("start", None)
    _check_closed(endless, terms, codes, table)


def check_form(callbacks, endless, terms):
    """Raise InvalidForm with the first problem of what shall be a form, if there is one."""
    _check_callbacks(callbacks)
    _check_endless(callbacks, endless)
    _check_terms(callbacks, terms)
    if terms:
        _check_order(terms)
        _check_together(callbacks, endless, terms)
    elif () not in endless:
        raise InvalidForm("start", None)
