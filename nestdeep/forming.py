"""The forms of the functions of a program, in which calls are performed."""

from nestdeep.reckoner import reckoner_of


def form_of(program, function):
    """The form of a function."""
    return reckoner_of(program, function).own_form(function)


def forms(program):
    """A dict from all functions to their forms."""
    return {name: form_of(program, name) for name in program.names()}
