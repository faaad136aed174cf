"""Contexts to try, and depths in them by the document's own words."""

from nestdeep.bodies import either
from nestdeep.forming import form_of
from nestdeep.programs import Program
from tests.programs import some_functions


def some_context(chance, callbacks, frames, interrupts="uvw"):
    passed = tuple((chance.random() < .6, chance.choice([0, 0, 1, 5])) for _ in callbacks)
    handlers = tuple((name, chance.randint(1, 9)) for name in interrupts if chance.random() < .5)
    sizes = tuple((frame, chance.randint(1, 9)) for frame in sorted(frames))
    return passed, handlers, sizes, chance.choice([0, 0, 3, 20])


def modelled_depth(form, context):
    passed, handlers, sizes, behind = context
    back = {name for name, (returns, _) in zip(form.callbacks, passed) if returns}
    if any(set(one) <= back for one in form.endless):
        return None
    found = [sum(cells for _, cells in handlers)]
    for line, shut, tag, returned in form.terms:
        if set(returned) <= back:
            if tag == "end":
                found.append(behind + sum(cells for _, cells in handlers))
            else:
                more = 0 if tag == "now" else passed[form.callbacks.index(tag)][1]
                found.append(sum(count * dict(sizes)[frame] for frame, count in line) + more
                             + sum(cells for name, cells in handlers if name not in shut))
    return max(found)


def frames_of(*forms):
    return sorted({frame for form in forms for term in form.terms for frame, _ in term[0]})


def is_deeper(one, other):
    """Whether a depth is greater than another one; None is greater than every number."""
    return other is not None and (one is None or one > other)


def some_forms(chance, many, kinds=((), ("c",), ("d", "c"))):
    """A dict from tuples of callbacks to lists of function forms with these."""
    found = {}
    for _ in range(many):
        program = Program(some_functions(chance, 4, recursive=chance.random() < .3, kinds=tuple(tuple("cd"["dc".index(name)] for name in kind) for kind in kinds)))
        for name in program.names():
            form = form_of(program, name)
            found.setdefault(form.callbacks, []).append(form)
    return found


def some_pair(chance, forms):
    """Two comparable forms, some of them equal and some at most one another."""
    one, other = chance.choice(forms), chance.choice(forms)
    way = chance.randint(0, 4)
    if way == 0:
        other = either(one, other)
    if way == 1:
        one = either(one, other)
    return one, other
