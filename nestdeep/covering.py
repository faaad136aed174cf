"""Terms that are known to be terms: their order, and what covers them."""

from nestdeep.callbacks import callback_key, is_part, set_key
from nestdeep.mixing import is_mixed

PLAIN_TAGS = ("now", "end")


def _tag_key(tag):
    return (PLAIN_TAGS.index(tag),) if tag in PLAIN_TAGS else (len(PLAIN_TAGS), callback_key(tag))


def term_key(term):
    """What terms are sorted by."""
    line, shut, tag, returned = term
    return _tag_key(tag), line, shut, set_key(returned)


def different_in_order(terms):
    """The list of these terms in term order, each once."""
    return sorted({term: True for term in terms}, key=term_key)


def helps(term, other):
    """Whether the term is one of those whose lines can cover the other one's."""
    return term[2] == other[2] and is_part(term[1], other[1]) and is_part(term[3], other[3])


def helpers(term, terms):
    """The list of those of the terms whose lines can cover the term's, each once."""
    return [other for other in different_in_order(terms) if helps(other, term)]


def is_term_mixed(term, terms):
    """Whether the terms cover the term."""
    return is_mixed(term[0], [other[0] for other in terms if helps(other, term)])
