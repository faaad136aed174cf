"""The errors of the package; each one keeps what it tells as fields."""


class InputError(ValueError):
    """What was passed is not what is asked for."""


class InvalidLine(InputError):
    def __init__(self, value):
        InputError.__init__(self, "a value is no line")
        self.value = value


class InvalidBody(InputError):
    def __init__(self, place):
        InputError.__init__(self, f"no statement at {place}")
        self.place = place


class InvalidProgram(InputError):
    def __init__(self, problem, name):
        InputError.__init__(self, f"no program: {problem} {name}")
        self.problem = problem
        self.name = name


class InvalidText(InputError):
    def __init__(self, line):
        InputError.__init__(self, f"wrong line: {line}")
        self.line = line


class InvalidHouse(InputError):
    def __init__(self, problem, name):
        InputError.__init__(self, f"no house: {problem} {name}")
        self.problem = problem
        self.name = name


class InvalidChoice(InputError):
    def __init__(self, value):
        InputError.__init__(self, "this event is not possible now")
        self.value = value


class InvalidRun(InputError):
    def __init__(self, position):
        InputError.__init__(self, f"no run, from event {position} on")
        self.position = position


class InvalidTerm(InputError):
    def __init__(self, value):
        InputError.__init__(self, "a value is no term")
        self.value = value


class InvalidForm(InputError):
    def __init__(self, problem, value):
        InputError.__init__(self, f"no form: {problem}")
        self.problem = problem
        self.value = value


class InvalidWay(InputError):
    def __init__(self, value):
        InputError.__init__(self, "a value is no way through the body")
        self.value = value


class InvalidChain(InputError):
    def __init__(self, value):
        InputError.__init__(self, "a value is no chain")
        self.value = value


class InvalidContext(InputError):
    def __init__(self, value):
        InputError.__init__(self, "a value is no context")
        self.value = value


class InvalidHole(InputError):
    def __init__(self, problem, value):
        InputError.__init__(self, f"no hole: {problem}")
        self.problem = problem
        self.value = value


class InvalidFilling(InputError):
    def __init__(self, value):
        InputError.__init__(self, "a value is no filling of the hole")
        self.value = value


class NotClosed(InputError):
    def __init__(self, returned):
        InputError.__init__(self, "something has returned that was not called")
        self.returned = returned


class InvalidMends(InputError):
    def __init__(self, position):
        InputError.__init__(self, f"no mends, from item {position} on")
        self.position = position


class InvalidSizes(InputError):
    def __init__(self, name):
        InputError.__init__(self, f"no size for the frame {name}")
        self.name = name


class InvalidCount(InputError):
    def __init__(self, value):
        InputError.__init__(self, "a number is none, or out of its range")
        self.value = value


class InvalidName(InputError):
    def __init__(self, value):
        InputError.__init__(self, "a value is no name")
        self.value = value


class InvalidRow(InputError):
    def __init__(self, value):
        InputError.__init__(self, "a value is no row")
        self.value = value


class InvalidClaim(InputError):
    def __init__(self, value):
        InputError.__init__(self, "a value is nothing that can be claimed")
        self.value = value


class MissingError(LookupError):
    """What was asked for is not there."""


class UnknownFunction(MissingError):
    def __init__(self, name):
        MissingError.__init__(self, "no such function")
        self.name = name


class UnknownFrame(MissingError):
    def __init__(self, name):
        MissingError.__init__(self, "no such frame")
        self.name = name


class UnknownInterrupt(MissingError):
    def __init__(self, name):
        MissingError.__init__(self, "no such interrupt has a handler")
        self.name = name


class UnknownInstance(MissingError):
    def __init__(self, value):
        MissingError.__init__(self, "no such instance is needed")
        self.value = value


class UnknownTerm(MissingError):
    def __init__(self, value):
        MissingError.__init__(self, "the form has no such term or set")
        self.value = value


class UnknownLine(MissingError):
    def __init__(self, value):
        MissingError.__init__(self, "the house has no such line")
        self.value = value


class UnknownName(MissingError):
    def __init__(self, name):
        MissingError.__init__(self, "no entry has this name")
        self.name = name


class StateError(RuntimeError):
    """What is there does not allow this."""


class Endless(StateError):
    def __init__(self, ring):
        StateError.__init__(self, "no number bounds the depth")
        self.ring = ring


class NoneFits(StateError):
    def __init__(self):
        StateError.__init__(self, "nothing fits under the limit")


class NothingToUndo(StateError):
    def __init__(self):
        StateError.__init__(self, "no deed is left that could be taken back")


class LimitError(ArithmeticError):
    """There would be more of something than is allowed."""


class TooMany(LimitError):
    def __init__(self, name):
        LimitError.__init__(self, "too many callbacks, terms, instances or lines")
        self.name = name
