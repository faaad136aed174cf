"""Houses to try, and a judge of claims of houses that shares nothing with the package's."""

from nestdeep.claims import claim_fault
from nestdeep.house import House
from nestdeep.programs import Program
from tests.programs import some_functions

WORDS = ["take", "take", "shut", "shut", "call", "either", "either", "room", "loop"]


def call(name, *args):
    return ("call", name, args)


def house_of(handlers, shut=(), **bodies):
    """A house whose task is main; each name is that of a function without parameters, with this body."""
    return House(Program([(name, (), body) for name, body in bodies.items()]), "main", handlers, shut=shut)


def some_house(chance, times=(1, 2, 3, 10 ** 12), loops=(1, 2), often=.25, most=4):
    """Some house, None if there is no function without parameters."""
    rows = some_functions(chance, most, recursive=chance.random() < .3, loops=loops, kinds=((), (), (), ("x",)), words=WORDS)
    program = Program(rows)
    plain = [name for name in program.names() if not program.params(name)]
    if not plain:
        return None
    interrupts = "uvw"[:chance.randint(0, 3)]

    def some():
        return tuple(sorted(name for name in interrupts if chance.random() < often))

    handlers = {name: (chance.choice(plain), chance.choice(times), some()) for name in interrupts}
    return House(program, chance.choice(plain), handlers, shut=some())


def some_sizes(chance, program):
    return {frame: chance.randint(1, 9) for frame in program.frames()}


def size(line, sizes):
    return sum(count * sizes[frame] for frame, count in line)


def bound_fault(house, sizes, limit, value):
    """The fault of a tuple of two dicts, word for word as the document has it."""
    claims, bounds = value
    handlers = {name: house.handler(name) for name in house if name not in house.shut}
    functions = sorted({house.task, *(handler[0] for handler in handlers.values())})
    if set(claims) != set(functions):
        return ("claim", None)
    for name in functions:
        if claim_fault(house.program, name, claims[name]) is not None:
            return ("function", name)
        form = claims[name][(name, ())]
        if form.endless or {frame for term in form.terms for frame, _ in term[0]} - set(house.program.frames()):
            return ("function", name)

    def terms_of(function):
        return [term for term in claims[function][(function, ())].terms if term[2] == "now"]

    def closed(term, more):
        return {name for name in [*term[1], *more] if name in handlers}

    def rest(name, used):
        return handlers[name][1] - dict(used).get(name, 0)

    def bulk(name, shut):
        return max([0] + [size(term[0], sizes) for term in terms_of(handlers[name][0]) if closed(term, handlers[name][2]) <= set(shut)])

    for key, bound in bounds.items():
        shut, used = key
        right = set(shut) <= set(handlers) and tuple(sorted(set(shut))) == shut and tuple(sorted(dict(used).items())) == used
        right = right and all(name in handlers and 1 <= count <= handlers[name][1] for name, count in used)
        if not right or bound < 0:
            return ("states", None)
    for term in terms_of(house.task):
        state = (tuple(sorted(closed(term, ()))), ())
        if state not in bounds or bounds[state] + size(term[0], sizes) > limit:
            return ("limit", term)
    for state in sorted(bounds):
        shut, used = state
        free = [name for name in sorted(handlers) if name not in shut]
        if bounds[state] < sum(rest(name, used) * bulk(name, shut) for name in free):
            return ("bulk", state)
        for name in free:
            for term in terms_of(handlers[name][0]):
                new = closed(term, handlers[name][2]) - set(shut)
                if new and rest(name, used) > 0:
                    later = tuple(sorted({**dict(used), name: dict(used).get(name, 0) + 1}.items()))
                    behind = (tuple(sorted({*shut, *new})), later)
                    if behind not in bounds or bounds[state] < bounds[behind] + size(term[0], sizes) + sum(rest(one, later) * bulk(one, shut) for one in new):
                        return ("closer", state, name, term)
    return None
