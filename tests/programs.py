"""Programs to try, what their functions reach when calls are performed, and judges of chains by themselves."""

from nestdeep.errors import InvalidWay
from nestdeep.lines import line_sum
from nestdeep.machine import Machine
from nestdeep.ways import reach


def some_body(random, heads, callable_names, params, depth=0, most=4, loops=(1, 2, None), words=None):
    """Some body that calls these functions; heads has the parameters of all functions that may be passed."""
    plain = [name for name, other in heads.items() if not other]
    body = []
    for _ in range(random.randint(0, most)):
        word = random.choice(words or ["take", "take", "shut", "call", "call", "do", "room", "either", "either", "loop", "stop"])
        if word == "stop" and random.random() < .5 or word in ("room", "either", "loop") and depth > 1:
            word = "take"
        if word == "do" and not params:
            word = "call"
        if word == "call" and not callable_names:
            word = "take"

        def block(many):
            return some_body(random, heads, callable_names, params, depth + 1, many, loops, words)

        if word == "take":
            body.append(("take", random.randint(1, 3), random.choice("ab")))
        elif word == "shut":
            body.append(("shut", tuple(sorted(random.sample("uv", random.randint(1, 2))))))
        elif word == "do":
            body.append(("do", random.choice(params)))
        elif word == "call":
            name = random.choice(callable_names)
            pool = [*params, *plain]
            if pool or not heads[name]:
                body.append(("call", name, tuple(random.choice(pool) for _ in heads[name])))
        elif word == "room":
            body.append(("room", block(3)))
        elif word == "either":
            body.append(("either", block(2), block(2)))
        elif word == "loop":
            body.append(("loop", random.choice(loops), block(2)))
        else:
            body.append(("stop",))
    return tuple(body)


def some_functions(random, most=4, recursive=True, loops=(1, 2, None), kinds=((), (), ("x",), ("y", "x")), words=None):
    """Functions of some program; if they are not recursive each one calls and passes only those ahead of it."""
    names = ["f", "g", "h", "k", "m"][:random.randint(1, most)]
    heads = {name: random.choice(kinds) for name in names}
    rows = []
    for at, name in enumerate(names):
        known = {other: heads[other] for other in (names if recursive else names[:at])}
        rows.append((name, heads[name], some_body(random, known, list(known), heads[name], loops=loops, words=words)))
    return rows


def performed(table, name, args, depth):
    """The room of a called instance with all calls performed so deep; deeper ones never come back."""
    if depth == 0:
        return ("stop",)
    params, body = table[name]
    return ("room", _inlined(table, body, dict(zip(params, args)), depth - 1))


def _inlined(table, body, passed, depth):
    rows = []
    for statement in body:
        word = statement[0]
        if word == "do" and passed[statement[1]] in table:
            rows.append(performed(table, passed[statement[1]], (), depth))
        elif word == "do":
            rows.append(("do", passed[statement[1]]))
        elif word == "call":
            rows.append(performed(table, statement[1], tuple(passed.get(arg, arg) for arg in statement[2]), depth))
        else:
            rows.append(tuple(_inlined(table, part, passed, depth) if word in ("room", "either", "loop") and isinstance(part, tuple) else part
                              for part in statement))
    return tuple(rows)


def inlined(functions, name, depth):
    """The body of a function with all calls performed so deep; only its parameters are called in it."""
    table = {other: (params, body) for other, params, body in functions}
    return (performed(table, name, table[name][0], depth),)


def moments_of(house, most):
    """All (line, shut) of the moments of a house, None behind them if there are more states than this."""
    first = Machine(house)
    known, waiting, found, count = {repr(first.stack()): [first]}, [first], {(first.line, first.shut)}, 0
    while waiting:
        machine = waiting.pop()
        for event in machine.possible():
            other = machine.clone()
            other.do(event)
            found.add((other.line, other.shut))
            bucket = known.setdefault(repr(other.stack()), [])
            if not any(other == one for one in bucket):
                bucket.append(other)
                waiting.append(other)
                count += 1
                if count > most:
                    return found, False
    return found, True


def target(program, instance, callback):
    passed = dict(zip(program.params(instance[0]), instance[1]))
    if isinstance(callback, str):
        return (passed[callback], ()) if passed[callback] in program else passed[callback]
    return callback[0], tuple(passed.get(arg, arg) for arg in callback[1])


class Judge:
    """Judges well-shaped chains and rings for a function; raises ValueError for what is none."""

    def __init__(self, program, name, returns):
        self.program, self.own, self.back = program, (name, program.params(name)), {}
        for instance, way in returns:
            self.check_instance(instance)
            term = self.reached(instance, way)
            if term[2] != "end" or instance in self.back:
                raise ValueError
            self.back[instance] = self.returned(term)

    def check_instance(self, instance):
        name, args = instance
        if name not in self.program or len(args) != len(self.program.params(name)):
            raise ValueError
        for arg in args:
            if arg not in self.own[1] and (arg not in self.program or self.program.params(arg)):
                raise ValueError

    def reached(self, instance, way):
        try:
            line, shut, tag, returned = reach(self.program.body(instance[0]), way)
        except InvalidWay as error:
            raise ValueError from error
        told = tag if tag in ("now", "end") else target(self.program, instance, tag)
        return line, shut, told, {target(self.program, instance, callback) for callback in returned}

    def returned(self, term):
        names = set()
        for one in term[3]:
            if isinstance(one, str):
                names.add(one)
            elif one in self.back:
                names |= self.back[one]
            else:
                raise ValueError
        return names

    def along(self, first, links):
        lines, shut, names, tag = [], set(), set(), first
        for instance, way in links:
            self.check_instance(instance)
            if instance != tag:
                raise ValueError
            term = self.reached(instance, way)
            names |= self.returned(term)
            shut |= set(term[1])
            lines.append(term[0])
            tag = term[2]
        return line_sum(lines), tuple(sorted(shut)), tag, names


def judged_chain(program, name, paper):
    """The term that a well-shaped chain reaches."""
    links, returns = paper
    judge = Judge(program, name, returns)
    line, shut, tag, names = judge.along(judge.own, links)
    if not links or not isinstance(tag, str) or tag == "end" and len(links) > 1:
        raise ValueError
    return ((), (), tag, tuple(sorted(names))) if tag == "end" else (line, shut, tag, tuple(sorted(names)))


def judged_ring(program, name, paper):
    """The parameters that must come back for a well-shaped ring, a set."""
    links, ring, returns = paper
    judge = Judge(program, name, returns)
    _, _, first, names = judge.along(judge.own, links)
    if isinstance(first, str):
        raise ValueError
    if ring[0] != "loop":
        line, _, last, more = judge.along(first, ring)
        if last != first or line == ():
            raise ValueError
        return names | more
    _, instance, way, around = ring
    judge.check_instance(instance)
    statement = next_statement(program.body(instance[0]), way)
    ahead = judge.reached(instance, way)
    if instance != first or ahead[2] != "now" or statement[:2] != ("loop", None):
        raise ValueError
    line, _, tag, back = reach(statement[2], around)
    if tag != "end" or line == ():
        raise ValueError
    told = {target(program, instance, callback) for callback in back}
    return names | judge.returned(ahead) | judge.returned((None, None, None, told))


def next_statement(body, way):
    """The statement that comes next where a way stops with "now", () if there is none."""
    steps, stop = way
    if isinstance(stop, str):
        return body[len(steps)] if len(steps) < len(body) else ()
    statement = body[len(steps)]
    if statement[0] == "room":
        return next_statement(statement[1], stop)
    return next_statement(statement[1 + stop[0]] if statement[0] == "either" else statement[2], stop[1])


def judged_house_chain(house, piles):
    """The (line, shut) of a well-shaped chain of a house."""
    lines, closed, stand = [], set(), {}
    for at, (interrupt, count, chain) in enumerate(piles):
        if (interrupt is None) != (at == 0) or interrupt in closed:
            raise ValueError
        function, times, shut = (house.task, 1, house.shut) if interrupt is None else house.handler(interrupt)
        term = judged_chain(house.program, function, chain)
        own = {*term[1], *shut}
        stand[interrupt] = stand.get(interrupt, 0) + count
        if term[2] != "now" or count < 1 or stand[interrupt] > times or interrupt in own and count > 1:
            raise ValueError
        lines.extend([tuple((frame, count * many) for frame, many in term[0])])
        closed |= own
    return line_sum(lines), tuple(sorted(closed))
