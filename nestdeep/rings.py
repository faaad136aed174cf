"""Chains, which reach the terms of a function, and rings, for which it is endless; their judges."""

from nestdeep.chainpapers import ChainJudge
from nestdeep.chains import Chains
from nestdeep.errors import InvalidChain, UnknownTerm
from nestdeep.formchecks import is_set_of, is_term_of
from nestdeep.forming import form_of
from nestdeep.functions import is_name_set
from nestdeep.reckoner import reckoner_of


def _found_chain(reckoner, function, term):
    goal = reckoner.bodies.codes.packed_term(term)
    chains = Chains(reckoner.solver, reckoner.needed_by(function), goal[2])
    links = chains.links_to(reckoner.bodies.own_instance(function), goal)
    return links, chains.returns_for(links)


def _found_ring(reckoner, function, returned):
    allowed = reckoner.bodies.codes.callback_mask(returned)
    chains = Chains(reckoner.solver, reckoner.needed_by(function), allowed)
    links, ring = chains.ring_from(reckoner.bodies.own_instance(function))
    return links, ring, chains.returns_for(links, ring)


def chain_of(program, function, term):
    """A chain that reaches a term of the function's form."""
    form = form_of(program, function)
    if not is_term_of(form.callbacks, term) or term not in form.terms:
        raise UnknownTerm(term)
    reckoner = reckoner_of(program, function)
    if (function, term) not in reckoner.papers:
        reckoner.papers[function, term] = _found_chain(reckoner, function, term)
    return reckoner.papers[function, term]


def ring_of(program, function, returned):
    """A ring for the function and an endless set of its form."""
    form = form_of(program, function)
    if not is_set_of(form.callbacks, returned) or returned not in form.endless:
        raise UnknownTerm(returned)
    reckoner = reckoner_of(program, function)
    if (function, returned) not in reckoner.papers:
        reckoner.papers[function, returned] = _found_ring(reckoner, function, returned)
    return reckoner.papers[function, returned]


def chain_term(program, function, paper):
    """The term that a chain for the function reaches."""
    judge = ChainJudge(reckoner_of(program, function).bodies, function)
    term = judge.chain_term(paper)
    if term is None:
        raise InvalidChain(paper)
    return term


def is_ring(program, function, returned, paper):
    """Whether this is a ring for the function and a set of its parameters."""
    judge = ChainJudge(reckoner_of(program, function).bodies, function)
    if not is_name_set(returned) or not all([name in judge.own[1] for name in returned]):
        return False
    names = judge.ring_returned(paper)
    return names is not None and all([name in returned for name in names])
