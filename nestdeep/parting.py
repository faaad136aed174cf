"""What parts function forms: how they differ, and contexts in which they have different depths."""

from nestdeep.callbacks import set_key
from nestdeep.contexts import check_function_form, frames_of_form, has_sizes, is_context, told_depth
from nestdeep.covering import term_key
from nestdeep.errors import InvalidForm
from nestdeep.lacks import context_of, lacking_returns, lacking_sets, lacking_terms


def check_comparable(one, other):
    """Raise InvalidForm unless these are comparable function forms."""
    check_function_form(one)
    check_function_form(other)
    if one.callbacks != other.callbacks:
        raise InvalidForm("callbacks", other)


def _least(word, values, others, key_of):
    """The difference by what one form lacks of the other one, both ways; None if nothing."""
    found = [(key_of(value), deeper, value) for deeper, rows in enumerate([values, others]) for value in rows]
    if not found:
        return None
    _, deeper, value = min(found)
    return deeper, word, value


def _length_key(callbacks):
    """What sets are sorted by."""
    return len(callbacks), set_key(callbacks)


def difference(one, other):
    """The difference of two comparable forms, None if they are equal."""
    check_comparable(one, other)
    if one == other:
        return None
    found = _least("endless", lacking_sets(one, other), lacking_sets(other, one), _length_key)
    if found is None:
        found = _least("returns", lacking_returns(one, other), lacking_returns(other, one), _length_key)
    if found is None:
        found = _least("term", lacking_terms(one, other), lacking_terms(other, one), term_key)
    return found


def parting(one, other):
    """A context in which two comparable forms have different depths, None if they are equal."""
    found = difference(one, other)
    if found is None:
        return None
    deeper, word, value = found
    pair = (one, other) if deeper == 0 else (other, one)
    return context_of((word, value), pair[0], pair[1])


def fits_both(one, other, value):
    """Whether this is a context for two comparable forms, with sizes for the frames of both."""
    if not is_context(one.callbacks, value):
        return False
    return has_sizes(value, frames_of_form(one)) and has_sizes(value, frames_of_form(other))


def is_parting_context(one, other, value):
    """Whether this is a context in which two comparable forms have different depths."""
    check_comparable(one, other)
    return fits_both(one, other, value) and told_depth(one, value) != told_depth(other, value)
