"""Papers of houses: chains and rings of houses, claims that a limit is kept, and their judges."""

from nestdeep.boundcheck import BoundCheck, claimed_functions, claims_fault
from nestdeep.claims import claim_of
from nestdeep.errors import InvalidChain
from nestdeep.frames import check_limit, check_sizes
from nestdeep.housechains import told_chain
from nestdeep.houselines import found_ring, own_forms
from nestdeep.housetowers import HouseTower, SizedForms
from nestdeep.plateaus import chain_of_piles
from nestdeep.rings import is_ring
from nestdeep.values import is_tuple_of


def is_house_chain(house, value):
    """Whether this is a chain of the house."""
    return told_chain(house, value) is not None


def chain_moment(house, chain):
    """The line and the shut of a chain of the house."""
    told = told_chain(house, chain)
    if told is None:
        raise InvalidChain(chain)
    return told


def is_house_ring(house, value):
    """Whether this is a ring of the house."""
    if not is_tuple_of(value, 2):
        return False
    interrupt, ring = value
    if interrupt is None:
        return is_ring(house.program, house.task, (), ring)
    if interrupt not in house or interrupt in house.shut:
        return False
    return is_ring(house.program, house.handler(interrupt)[0], (), ring)


def keeps(house, sizes, limit):
    """(True, claim) if the house keeps the limit, else (False, paper) with a chain or a ring of it."""
    check_sizes(house.program.frames(), sizes)
    check_limit(limit)
    ring = found_ring(house)
    if ring is not None:
        return False, ring
    tower = HouseTower(house, SizedForms(house.program, sizes))
    if tower.height > limit:
        return False, chain_of_piles(house, tower.piles())
    claims = {name: claim_of(house.program, name) for name in claimed_functions(house)}
    return True, (claims, tower.bounds())


def house_fault(house, sizes, limit, value):
    """The first fault of a value that is no claim of the house for the limit, None if it is one."""
    check_sizes(house.program.frames(), sizes)
    check_limit(limit)
    # Its forms are asked for, as there may be too many terms.
    own_forms(house)
    fault = claims_fault(house, value)
    if fault is not None:
        return fault
    return BoundCheck(house, sizes, value[0], value[1]).fault(limit)
