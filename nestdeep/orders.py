"""Which function forms are never deeper than others, and the papers of it."""

from nestdeep.callbacks import is_part
from nestdeep.covering import helps
from nestdeep.frames import lies_within
from nestdeep.lacks import context_of, first_lack, is_deeper_in
from nestdeep.mixing import mix_weights
from nestdeep.mixpapers import is_mix_above
from nestdeep.parting import check_comparable, fits_both
from nestdeep.values import is_fraction, is_tuple_of, is_whole_number


def never_deeper(one, other):
    """Whether the one has the greater depth in no context."""
    check_comparable(one, other)
    return one.at_most(other)


def _set_within(sets, callbacks):
    """The number of the first of the sets that lies within these callbacks, None if there is none."""
    for number, one in enumerate(sets):
        if is_part(one, callbacks):
            return number
    return None


def _end_paper(term, other):
    """How an end of a form is in the other one."""
    for number, end in enumerate(other.terms):
        if end[2] == "end" and is_part(end[3], term[3]):
            return "end", number
    return "endless", _set_within(other.endless, term[3])


def _mix_paper(term, other):
    """The weights of terms of the other form that cover a term, each with the number of its term."""
    helping = [(number, helper) for number, helper in enumerate(other.terms) if helps(helper, term)]
    for number, helper in helping:
        if lies_within(term[0], helper[0]):
            return ((number, (1, 1)),)
    found = mix_weights(term[0], [helper[0] for _, helper in helping])
    return tuple([(number, weight) for (number, _), weight in zip(helping, found) if weight[0] > 0])


def _term_paper(term, other):
    """How a term of a form that is no end is in the other one."""
    number = _set_within(other.endless, term[3])
    return ("mix", _mix_paper(term, other)) if number is None else ("endless", number)


def order_paper(one, other):
    """Whether the one is never deeper than the other, and the paper of it."""
    check_comparable(one, other)
    lack = first_lack(one, other)
    if lack is not None:
        return False, context_of(lack, one, other)
    endless = tuple([_set_within(other.endless, callbacks) for callbacks in one.endless])
    ends = tuple([_end_paper(term, other) for term in one.terms if term[2] == "end"])
    terms = tuple([_term_paper(term, other) for term in one.terms if term[2] != "end"])
    return True, (endless, ends, terms)


def _is_number_of(rows, value):
    """Whether this is the number of one of the rows."""
    return is_whole_number(value) and 0 <= value < len(rows)


def _is_set_number(other, callbacks, value):
    """Whether this is the number of an endless set of the other form that lies within these callbacks."""
    return _is_number_of(other.endless, value) and is_part(other.endless[value], callbacks)


def _is_end_paper(term, other, value):
    if not is_tuple_of(value, 2) or not isinstance(value[0], str):
        return False
    word, number = value
    if word == "endless":
        return _is_set_number(other, term[3], number)
    if word != "end" or not _is_number_of(other.terms, number):
        return False
    return other.terms[number][2] == "end" and is_part(other.terms[number][3], term[3])


def _is_weight(term, other, value):
    """Whether this is the number of a term of the other form that can help to cover the term, and a weight."""
    if not is_tuple_of(value, 2) or not _is_number_of(other.terms, value[0]):
        return False
    return helps(other.terms[value[0]], term) and is_fraction(value[1]) and value[1][0] > 0


def _is_mix_paper(term, other, value):
    if not isinstance(value, tuple) or not all([_is_weight(term, other, pair) for pair in value]):
        return False
    if not all([value[at][0] < value[at + 1][0] for at in range(len(value) - 1)]):
        return False
    return is_mix_above(term[0], [other.terms[number][0] for number, _ in value], [weight for _, weight in value])


def _is_term_paper(term, other, value):
    if not is_tuple_of(value, 2) or not isinstance(value[0], str):
        return False
    word, told = value
    if word == "endless":
        return _is_set_number(other, term[3], told)
    return word == "mix" and _is_mix_paper(term, other, told)


def _are_told(rows, values, other, is_told):
    """Whether the values are a tuple that tells for each of the rows how it is in the other form."""
    if not is_tuple_of(values, len(rows)):
        return False
    for row, value in zip(rows, values):
        if not is_told(row, other, value):
            return False
    return True


def _is_paper_of_holding(one, other, value):
    """Whether this is a paper that the one is never deeper than the other."""
    if not is_tuple_of(value, 3) or not is_tuple_of(value[0], len(one.endless)):
        return False
    endless, ends, terms = value
    if not all([_is_set_number(other, callbacks, number) for callbacks, number in zip(one.endless, endless)]):
        return False
    if not _are_told([term for term in one.terms if term[2] == "end"], ends, other, _is_end_paper):
        return False
    return _are_told([term for term in one.terms if term[2] != "end"], terms, other, _is_term_paper)


def is_order_paper(one, other, holds, value):
    """Whether this is a paper that the one is never deeper than the other, or that it is, if it holds not."""
    check_comparable(one, other)
    if holds:
        return _is_paper_of_holding(one, other, value)
    return fits_both(one, other, value) and is_deeper_in(one, other, value)
