"""One judge for all that can be claimed: whether it is such a thing, its papers, and a paper of it."""

from nestdeep.callbacks import is_part
from nestdeep.chainpapers import ChainJudge
from nestdeep.claims import claim_fault, claim_of
from nestdeep.contexts import is_function_form
from nestdeep.errors import InvalidClaim, TooMany
from nestdeep.formchecks import is_term_of
from nestdeep.forming import form_of
from nestdeep.frames import size_of
from nestdeep.functions import is_name_set
from nestdeep.house import House
from nestdeep.housechains import told_chain
from nestdeep.lines import is_line
from nestdeep.mends import MOST_MENDS, is_no_tree, no_tree
from nestdeep.mixes import parting_sizes, weights
from nestdeep.mixpapers import is_parting, is_weights
from nestdeep.nestpapers import house_fault, is_house_ring, keeps
from nestdeep.orders import is_order_paper, order_paper
from nestdeep.programs import Program
from nestdeep.reckoner import reckoner_of
from nestdeep.rings import chain_of, is_ring, ring_of
from nestdeep.values import is_count, is_list


def _are_line_and_lines(line, lines):
    return is_line(line) and is_list(lines) and all([is_line(other) for other in lines])


def _is_function(program, function):
    return isinstance(program, Program) and function in program


def _is_term_of_form(program, function, term):
    if not _is_function(program, function):
        return False
    try:
        form = form_of(program, function)
    except TooMany:
        return False
    return is_term_of(form.callbacks, term) and term in form.terms


def _are_its_parameters(program, function, returned):
    if not _is_function(program, function) or not is_name_set(returned):
        return False
    return is_part(returned, program.params(function))


def _is_form_for(program, function, form):
    if not _is_function(program, function) or not is_function_form(form):
        return False
    return form.callbacks == tuple(sorted(program.params(function)))


def _are_comparable(form, other):
    return is_function_form(form) and is_function_form(other) and form.callbacks == other.callbacks


def _are_house_and_limit(house, sizes, limit):
    if not isinstance(house, House) or not isinstance(sizes, dict) or not is_count(limit, 0):
        return False
    return all([is_count(sizes.get(frame), 1) for frame in house.program.frames()])


def _are_house_and_depth(house, sizes, limit, depth):
    return _are_house_and_limit(house, sizes, limit) and is_count(depth, 0) and depth <= MOST_MENDS


# How many parts stand behind the word of what is claimed.
MANY_PARTS = {
    "covered": 2, "not covered": 2, "reached": 3, "endless": 3, "bounded": 3, "never deeper": 2, "deeper": 2,
    "keeps": 3, "exceeds": 3, "no mends": 4,
}
CHECKS = {
    "covered": _are_line_and_lines, "not covered": _are_line_and_lines, "reached": _is_term_of_form,
    "endless": _are_its_parameters, "bounded": _is_form_for, "never deeper": _are_comparable,
    "deeper": _are_comparable, "keeps": _are_house_and_limit, "exceeds": _are_house_and_limit,
    "no mends": _are_house_and_depth,
}


def is_claimed(value):
    """Whether this is something that can be claimed."""
    if not isinstance(value, tuple) or not value or not isinstance(value[0], str) or value[0] not in CHECKS:
        return False
    word, *parts = value
    if len(parts) != MANY_PARTS[word]:
        return False
    check = CHECKS[word]
    return check(*parts)


def _is_mix(line, lines, value):
    return is_weights(line, lines, value)


def _are_sizes_apart(line, lines, value):
    return is_parting(line, lines, value)


def _is_chain_to(program, function, term, value):
    return ChainJudge(reckoner_of(program, function).bodies, function).chain_term(value) == term


def _is_ring_within(program, function, returned, value):
    return is_ring(program, function, returned, value)


def _is_claim_below(program, function, form, value):
    if claim_fault(program, function, value) is not None:
        return False
    return value[function, program.params(function)].at_most(form)


def _is_paper_of_holding(form, other, value):
    return is_order_paper(form, other, True, value)


def _is_context_of_deeper(form, other, value):
    return is_order_paper(form, other, False, value)


def _is_claim_of_house(house, sizes, limit, value):
    return house_fault(house, sizes, limit, value) is None


def _is_excess(house, sizes, limit, value):
    told = told_chain(house, value)
    return is_house_ring(house, value) if told is None else size_of(told[0], sizes) > limit


def _is_tree(house, sizes, limit, depth, value):
    return is_no_tree(house, sizes, limit, depth, value)


JUDGES = {
    "covered": _is_mix, "not covered": _are_sizes_apart, "reached": _is_chain_to, "endless": _is_ring_within,
    "bounded": _is_claim_below, "never deeper": _is_paper_of_holding, "deeper": _is_context_of_deeper,
    "keeps": _is_claim_of_house, "exceeds": _is_excess, "no mends": _is_tree,
}


def _check_claimed(claimed):
    if not is_claimed(claimed):
        raise InvalidClaim(claimed)


def is_paper(claimed, value):
    """Whether a value is a paper of what is claimed."""
    _check_claimed(claimed)
    word, *parts = claimed
    judge = JUDGES[word]
    return judge(*parts, value)


def _mix(line, lines):
    return weights(line, lines)


def _sizes_apart(line, lines):
    return parting_sizes(line, lines)


def _chain_to(program, function, term):
    return chain_of(program, function, term)


def _ring_within(program, function, returned):
    for callbacks in form_of(program, function).endless:
        if is_part(callbacks, returned):
            return ring_of(program, function, callbacks)
    return None


def _claim_below(program, function, form):
    return claim_of(program, function) if form_of(program, function).at_most(form) else None


def _paper_of_holding(form, other):
    holds, paper = order_paper(form, other)
    return paper if holds else None


def _context_of_deeper(form, other):
    holds, paper = order_paper(form, other)
    return None if holds else paper


def _claim_of_house(house, sizes, limit):
    holds, paper = keeps(house, sizes, limit)
    return paper if holds else None


def _excess(house, sizes, limit):
    holds, paper = keeps(house, sizes, limit)
    return None if holds else paper


def _tree(house, sizes, limit, depth):
    return no_tree(house, sizes, limit, depth)


FINDERS = {
    "covered": _mix, "not covered": _sizes_apart, "reached": _chain_to, "endless": _ring_within,
    "bounded": _claim_below, "never deeper": _paper_of_holding, "deeper": _context_of_deeper,
    "keeps": _claim_of_house, "exceeds": _excess, "no mends": _tree,
}


def paper_of(claimed):
    """A paper of what is claimed, None if it is not true."""
    _check_claimed(claimed)
    word, *parts = claimed
    find = FINDERS[word]
    return find(*parts)
