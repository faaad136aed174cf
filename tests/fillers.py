"""Functions that have given forms, and holes to try."""


def in_order(form, callbacks):
    """Statements behind which just these callbacks have returned, each called at a term of the form."""
    rows, ahead = [], set()
    while ahead != set(callbacks):
        term = next(term for term in form.terms if term[2] in callbacks and term[2] not in ahead and set(term[3]) <= ahead)
        rows.append(("room", (*placed(term), ("do", term[2]))))
        ahead.add(term[2])
    return rows


def placed(term):
    """Statements behind which a line is taken and interrupts are shut."""
    return (*([("shut", term[1])] if term[1] else []), *(("take", count, frame) for frame, count in term[0]))


def body_with(form):
    """A body that has a function form, if it is a closed one."""
    if () in form.endless:
        return (("loop", None, (("take", 1, "z"),)),)
    # An endless body keeps the calls ahead of its sets, but no more: they are terms of the form.
    rows = [("either", (*in_order(form, callbacks), ("loop", None, (("take", 1, "z"),)), ("stop",)), ()) for callbacks in form.endless]
    ends = []
    for term in form.terms:
        branch = (*in_order(form, term[3]),)
        if term[2] == "end":
            ends.append(branch)
        else:
            called = () if term[2] == "now" else (("do", term[2]),)
            rows.append(("either", (*branch, *placed(term), *called, ("stop",)), ()))
    last = (("stop",),)
    for end in ends:
        last = (("either", end, last),)
    return (*rows, *last)


def some_sets(chance, params):
    """Some least sets of parameters."""
    pools = {(): [(), ((),)], ("c",): [(), ((),), (("c",),)],
             ("c", "d"): [(), ((),), (("c",),), (("d",),), (("c",), ("d",)), (("c", "d"),)]}
    return chance.choice(pools[tuple(sorted(params))])


def some_kinds(chance, params, interrupts="uv", most=3):
    kinds = {}
    for name in ("k", "l", "m", "n")[:chance.randint(0, most)]:
        shut = tuple(sorted(name for name in interrupts if chance.random() < .3))
        returned = tuple(sorted(param for param in params if chance.random() < .3))
        kinds[shut, chance.choice(["now", *params]), returned] = name
    return [(name, *rest) for rest, name in kinds.items()]
