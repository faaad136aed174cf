"""Terms: what is reached on the ways through a body."""

from nestdeep.callbacks import in_callback_order, is_callback, is_callback_set, sets_in_order
from nestdeep.codes import codes_of_terms
from nestdeep.covering import PLAIN_TAGS, helpers, is_term_mixed, term_key
from nestdeep.errors import InvalidTerm
from nestdeep.frames import summed
from nestdeep.functions import is_name_set, united
from nestdeep.lines import is_line
from nestdeep.mixing import mix_weights, parting_prices
from nestdeep.packs import least_groups
from nestdeep.values import is_list, is_tuple_of


def _is_tag(value):
    return (isinstance(value, str) and value in PLAIN_TAGS) or is_callback(value)


def is_term(value):
    """Whether this is a tuple (line, shut, tag, returned)."""
    if not is_tuple_of(value, 4):
        return False
    line, shut, tag, returned = value
    return is_line(line) and is_name_set(shut) and _is_tag(tag) and is_callback_set(returned)


def check_term(term):
    """Raise InvalidTerm for a value that is no term."""
    if not is_term(term):
        raise InvalidTerm(term)


def check_terms(terms):
    """Raise InvalidTerm for the first item that is no term, or for what is no list."""
    if not is_list(terms):
        raise InvalidTerm(terms)
    for term in terms:
        check_term(term)


def in_order(terms):
    """The list of these terms in term order."""
    check_terms(terms)
    return sorted(terms, key=term_key)


def least_terms(terms):
    """The tuple of the terms that the other ones do not cover, each once, in term order."""
    check_terms(terms)
    tags = [term[2] for term in terms if term[2] not in PLAIN_TAGS]
    codes = codes_of_terms(terms, [*tags, *[callback for term in terms for callback in term[3]]])
    return codes.terms_of({tag: least_groups(groups) for tag, groups in codes.table_of(terms).items()})


def least_sets(sets):
    """The tuple of the sets within which no other one lies, each once, shorter ones first."""
    return sets_in_order(sets)


def is_covered_term(term, terms):
    """Whether the terms cover the term."""
    check_term(term)
    check_terms(terms)
    return is_term_mixed(term, terms)


def cover(term, terms):
    """A dict from terms to fractions, the weights of a mix that covers the term; None if there is none."""
    check_term(term)
    check_terms(terms)
    helping = helpers(term, terms)
    found = mix_weights(term[0], [other[0] for other in helping])
    if found is None:
        return None
    return {other: weight for other, weight in zip(helping, found) if weight[0] > 0}


def parting_of(term, terms):
    """Sizes at which the term's line is greater than those of all terms that could cover it, or None."""
    check_term(term)
    check_terms(terms)
    return parting_prices(term[0], [other[0] for other in helpers(term, terms)])


def put_on(first, second):
    """The term that is reached where second is reached behind first."""
    check_term(first)
    check_term(second)
    returned = in_callback_order([*first[3], *second[3]])
    return summed([first[0], second[0]]), united(first[1], second[1]), second[2], returned
