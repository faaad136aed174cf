"""A bench that makes everything anew behind each deed, by the document's own words; and deeds to try."""

from nestdeep.errors import InputError, LimitError, MissingError, StateError
from nestdeep.forming import forms
from nestdeep.house import House
from nestdeep.nests import greatest_depth, is_endless, lines_of
from nestdeep.programs import Program
from tests.programs import some_functions

ERRORS = (InputError, MissingError, StateError, LimitError)


def told_error(error):
    """What an error tells, to be compared."""
    return type(error), {name: value for name, value in vars(error).items()}


class ModelBench:
    def __init__(self):
        self.rows, self.entries, self.past = {}, {}, []

    def program(self):
        return Program([self.rows[name] for name in sorted(self.rows)]) if self.rows else None

    def state(self, name):
        task, handlers, shut, sizes, limit = self.entries[name]
        house = self.house(name)
        if is_endless(house):
            return "endless"
        if limit is None or sizes is None and house.program.frames():
            return "open"
        return "kept" if greatest_depth(house, sizes or {})[0] <= limit else "exceeded"

    def house(self, name):
        task, handlers, shut, _, _ = self.entries[name]
        return House(self.program(), task, handlers, shut=shut)

    def lines(self, name):
        house = self.house(name)
        return None if is_endless(house) else lines_of(house)

    def forms(self):
        return forms(self.program()) if self.rows else {}

    def all_used(self, name):
        program, known, waiting = self.program(), {name}, [name]
        while waiting:
            for other in program.uses(waiting.pop()):
                if other not in known:
                    known.add(other)
                    waiting.append(other)
        return known

    def told(self):
        return self.forms(), {name: row[1] for name, row in self.rows.items()}, {name: self.lines(name) for name in self.entries}

    def deed(self, change, put=(), touched=()):
        """Do a deed that did not raise an error; the news."""
        before = self.told()
        self.past.append((dict(self.rows), dict(self.entries)))
        change()
        frames = self.program().frames() if self.rows else []
        for name, (task, handlers, shut, sizes, limit) in self.entries.items():
            sizes = {frame: sizes[frame] for frame in frames} if sizes is not None and frames else None
            self.entries[name] = (task, handlers, shut, sizes, limit)
        behind = self.told()
        changed = {name for name in {*before[0], *behind[0]} if name not in before[0] or name not in behind[0] or before[0][name] != behind[0][name]}
        moved = changed | {name for name in before[1] if name in behind[1] and before[1][name] != behind[1][name]}
        computed = set()
        for name in self.rows:
            group = {other for other in self.all_used(name) if name in self.all_used(other)}
            uses = {used for other in group for used in self.program().uses(other)} - group
            if group & set(put) or uses & moved:
                computed |= group
        entries = {name for name in self.entries if name in before[2] and before[2][name] != behind[2][name]} | set(touched)
        return tuple(sorted(computed)), tuple(sorted(changed)), tuple(sorted(entries))

    def put(self, functions):
        return self.deed(lambda: self.rows.update({row[0]: row for row in functions}), [row[0] for row in functions])

    def drop(self, names):
        return self.deed(lambda: [self.rows.pop(name) for name in set(names)])

    def set_entry(self, name, house, sizes, limit):
        entry = (house.task, house.handlers(), house.shut, sizes, limit)
        return self.deed(lambda: self.entries.update({name: entry}), (), [name])

    def drop_entry(self, name):
        return self.deed(lambda: self.entries.pop(name), (), [name])

    def undo(self):
        self.rows, self.entries = self.past.pop()


def some_deed(chance, bench):
    """A tuple (word, args, named) of some deed for a bench, perhaps one that raises an error."""
    program = bench.current()
    way = chance.random()
    if way < .45 or program is None:
        pool = some_functions(chance, 5, recursive=chance.random() < .4, kinds=((), (), (), ("x",), ("y", "x")))
        return "put", (chance.sample(pool, chance.randint(1, len(pool))),), {}
    if way < .6:
        row = chance.choice(program.functions())
        changed = chance.choice([row[2], row[2][:-1], (*row[2][:11], ("take", 1, "a")), (*row[2][:11], ("room", ())), (*row[2][:11], ("shut", ("u",)))])
        return "put", ([(row[0], chance.choice([row[1], row[1][::-1]]), changed)],), {}
    if way < .7:
        return "drop", (chance.sample(program.names(), chance.randint(1, min(2, len(program)))),), {}
    if way < .88:
        plain = [name for name in program.names() if not program.params(name)]
        if not plain:
            return "undo", (), {}
        interrupts = "uv"[:chance.randint(0, 2)]
        handlers = {name: (chance.choice(plain), chance.choice([1, 2]), tuple(one for one in interrupts if chance.random() < .3)) for name in interrupts}
        house = House(program, chance.choice(plain), handlers, shut=tuple(one for one in interrupts if chance.random() < .2))
        named = {}
        if chance.random() < .8:
            named["sizes"] = {**{frame: chance.randint(1, 5) for frame in program.frames()}, "z": 9}
        if chance.random() < .8:
            named["limit"] = chance.randint(0, 12)
        return "set_entry", (chance.choice(["one", "two", "six"]), house), named
    if way < .93 and bench.names():
        return "drop_entry", (chance.choice(bench.names()),), {}
    return "undo", (), {}
