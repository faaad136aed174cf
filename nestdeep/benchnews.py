"""What a deed of a bench changes, and how far it reaches."""

from nestdeep.grouping import all_from


def all_used(program):
    """A dict from the functions to dicts of all that each one uses, directly or through others, and of itself."""
    uses = {name: program.uses(name) for name in program.names()}
    return {name: all_from([name], uses) for name in uses}


def reach_in(program, function):
    """The sorted tuple of a function and of all that use it, directly or through others."""
    used = all_used(program)
    return tuple([name for name in program.names() if function in used[name]])


def _is_changed(before, behind, name):
    """Whether the form of a function is not what it was, or it was not there."""
    return name not in before.form_of_name or before.form_of_name[name] != behind.form_of_name[name]


def _computed(before, behind, put):
    """The sorted tuple of the functions of the groups that are computed again when these were put."""
    program = behind.program
    if program is None:
        return ()
    moved = [name for name in program.names() if _is_changed(before, behind, name)]
    if before.program is not None:
        both = [name for name in program.names() if name in before.program]
        moved.extend([name for name in both if program.params(name) != before.program.params(name)])
    used = all_used(program)
    first = []
    for name in program.names():
        # A group is computed again as soon as one of its functions asks for it.
        if name in put or [other for other in program.uses(name) if other in moved and name not in used[other]]:
            first.append(name)
    again = [name for name in program.names() for one in first if name in used[one] and one in used[name]]
    return tuple(sorted(set(again)))


def news_of(before, behind, put):
    """The news of a deed by which functions changed, of which these were put."""
    changed = [name for name in behind.form_of_name if _is_changed(before, behind, name)]
    dropped = [name for name in before.form_of_name if name not in behind.form_of_name]
    entries = [name for name, lines in behind.lines_of_name.items() if lines != before.lines_of_name[name]]
    return _computed(before, behind, put), tuple(sorted([*changed, *dropped])), tuple(sorted(entries))
