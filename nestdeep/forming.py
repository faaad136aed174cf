"""The forms of the functions of a program, in which calls are performed."""

from nestdeep.reckoner import reckoner_of


def form_of(program, function):
    """The form of a function."""
    reckoner = reckoner_of(program, function)
    reckoner.needed_by(function)
    return reckoner.form_for(function, reckoner.bodies.own_instance(function))


def forms(program):
    """A dict from all functions to their forms."""
    return {name: form_of(program, name) for name in program.names()}
