"""The instances that a function needs, and their body forms."""

from nestdeep.callbacks import is_instance
from nestdeep.errors import UnknownInstance
from nestdeep.reckoner import reckoner_of


def needed(program, function):
    """The list of the instances that the function needs, in callback order."""
    return list(reckoner_of(program, function).needed_by(function))


def instance_form(program, function, instance):
    """The body form of an instance that the function needs."""
    reckoner = reckoner_of(program, function)
    known = reckoner.needed_by(function)
    if not is_instance(instance) or instance not in known:
        raise UnknownInstance(instance)
    return reckoner.body_form_for(instance)
