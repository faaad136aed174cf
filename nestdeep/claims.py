"""Claims: forms of all instances that a function needs, which are checked one by one."""

from nestdeep.callbacks import is_instance
from nestdeep.claimcheck import ClaimCheck
from nestdeep.forms import Form
from nestdeep.reckoner import reckoner_of


def claim_of(program, function):
    """The claim of the forms of the instances that the function needs."""
    reckoner = reckoner_of(program, function)
    return {instance: reckoner.form_for(function, instance) for instance in reckoner.needed_by(function)}


def _shape_fault(needed, params, claim):
    """The fault of a value that does not have just one such Form for each instance, or None."""
    if not isinstance(claim, dict):
        return "claim", None
    for key in claim:
        # What is no instance must not be compared with one.
        if not is_instance(key) or key not in needed:
            return "claim", None
    for instance in needed:
        if instance not in claim:
            return "instance", instance
    for instance in needed:
        form = claim[instance]
        if not isinstance(form, Form) or form.callbacks != params:
            return "form", instance
    return None


def claim_fault(program, function, claim):
    """The first fault of a value that is no claim that holds, None if it is one."""
    reckoner = reckoner_of(program, function)
    needed = reckoner.needed_by(function)
    params = tuple(sorted(program.params(function)))
    fault = _shape_fault(needed, params, claim)
    if fault is not None:
        return fault
    check = ClaimCheck(claim, {instance: reckoner.body_form_for(instance) for instance in needed}, params)
    for instance in needed:
        wrong = check.wrong_set(instance)
        if wrong is not None:
            return "endless", instance, wrong
        wrong = check.wrong_term(instance)
        if wrong is not None:
            return "term", instance, wrong
    return None
