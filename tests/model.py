"""A model of the machine, made otherwise than the package's: with a list of open bodies for each call."""


def add(line, count, frame):
    counts = dict(line)
    counts[frame] = counts.get(frame, 0) + count
    return tuple(sorted(counts.items()))


class OpenBody:
    def __init__(self, kind, body, place, kept=None):
        self.kind, self.body, self.place, self.kept = kind, body, place, kept
        self.index = self.begun = 0


class ModelCall:
    def __init__(self, program, function, args):
        self.instance = (function, args)
        self.passed = dict(zip(program.params(function), args))
        self.open = [OpenBody("function", program.body(function), ())]
        self.line, self.shut = (), ()

    def next(self):
        inner = self.open[-1]
        return inner.body[inner.index] if inner.index < len(inner.body) else None

    def place(self):
        return (*self.open[-1].place, self.open[-1].index)

    def done(self):
        self.open[-1].index += 1
        self.open[-1].begun = 0

    def begin(self, kind, body, number, kept=None):
        self.open.append(OpenBody(kind, body, (*self.place(), number), kept))


class ModelMachine:
    def __init__(self, house):
        self.house = house
        self.handlers = house.handlers()
        self.segments = [(None, [ModelCall(house.program, house.task, ())])]

    def line(self):
        line = ()
        for _, calls in self.segments:
            for call in calls:
                for frame, count in call.line:
                    line = add(line, count, frame)
        return line

    def shut(self):
        shut = set(self.house.shut) if self.segments else set()
        for interrupt, calls in self.segments:
            if interrupt is not None:
                shut |= set(self.handlers[interrupt][2])
            for call in calls:
                shut |= set(call.shut)
        return tuple(sorted(shut))

    def stack(self):
        return [(interrupt, tuple((call.instance, call.place(), call.line, call.shut) for call in calls))
                for interrupt, calls in self.segments]

    def own(self):
        """The events that are possible for the call that runs."""
        call = self.segments[-1][1][-1]
        statement = call.next() or ("end",)
        if statement[0] == "loop":
            more = statement[1] is None or call.open[-1].begun < statement[1]
            return [("round",), ("leave",)] if more else [("leave",)]
        return {"stop": [], "either": [("left",), ("right",)]}.get(statement[0], [("go",)])

    def possible(self):
        if not self.segments:
            return []
        comes = []
        for interrupt in sorted(self.handlers):
            many = sum(1 for segment in self.segments if segment[0] == interrupt)
            if interrupt not in self.shut() and many < self.handlers[interrupt][1]:
                comes.append(("come", interrupt))
        return self.own() + comes

    def do(self, event):
        program = self.house.program
        if event[0] == "come":
            self.segments.append((event[1], [ModelCall(program, self.handlers[event[1]][0], ())]))
            return
        calls = self.segments[-1][1]
        call = calls[-1]
        statement = call.next()
        if statement is None:
            self.end(calls, call)
        elif statement[0] == "take":
            call.line = add(call.line, statement[1], statement[2])
            call.done()
        elif statement[0] == "shut":
            call.shut = tuple(sorted({*call.shut, *statement[1]}))
            call.done()
        elif statement[0] == "room":
            call.begin("room", statement[1], 0, (call.line, call.shut))
        elif statement[0] == "either":
            number = ("left", "right").index(event[0])
            call.begin("either", statement[1 + number], number)
        elif event[0] == "round":
            call.open[-1].begun += 1
            call.begin("loop", statement[2], 0)
        elif event[0] == "leave":
            call.done()
        elif statement[0] == "do":
            calls.append(ModelCall(program, call.passed[statement[1]], ()))
        else:
            args = tuple(call.passed.get(arg, arg) for arg in statement[2])
            calls.append(ModelCall(program, statement[1], args))

    def end(self, calls, call):
        """What the end of the innermost open body does."""
        if call.open[-1].kind == "function":
            calls.pop()
            if calls:
                calls[-1].done()
            else:
                self.segments.pop()
            return
        ended = call.open.pop()
        if ended.kind == "room":
            call.line, call.shut = ended.kept
        if ended.kind != "loop":
            call.done()
