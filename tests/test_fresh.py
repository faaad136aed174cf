"""What objects tell is new each time, and stays as it is when something else is changed."""

import copy
import unittest

from nestdeep.house import House
from nestdeep.machine import Machine
from nestdeep.programs import Program
from nestdeep.programtexts import parse_program
from nestdeep.runs import deepest, moments, played
from tests.helpers import Case

BODY = (("take", 2, "p"), ("room", (("shut", ("u",)), ("call", "deep", ("back",)))), ("loop", 3, (("take", 1, "q"),)))
FUNCTIONS = [
    ("main", (), BODY), ("deep", ("c",), (("do", "c"), ("take", 1, "r"))), ("back", (), (("shut", ("v",)),)),
    ("tick", (), (("take", 1, "t"),)),
]
HANDLERS = {"u": ("tick", 2, ("v",)), "v": ("tick", 1, ())}
EVENTS = [
    ("go",), ("come", "v"), ("go",), ("go",), ("go",), ("go",), ("go",), ("go",), ("go",), ("go",), ("go",), ("go",),
    ("go",), ("round",), ("come", "u"), ("go",), ("come", "u"), ("go",),
]


def spoil(value):
    """Change a list or a dict as much as can be."""
    if isinstance(value, dict):
        value["zz"] = 5
        value.pop(next(iter(value)))
    else:
        value.reverse()
        value.append("zz")
        value.insert(0, None)


class Fresh(Case):
    def stays(self, tell):
        """What is told is new each time: changing it changes nothing that is told later."""
        first = tell()
        wanted = copy.deepcopy(first)
        spoil(first)
        second = tell()
        self.is_same(second, wanted)
        spoil(second)
        spoil(second)
        self.is_same(tell(), wanted)
        self.assertIsNot(tell(), tell())

    def test_what_a_program_tells(self):
        text = "function main\n  take 2 p\n  call tick\n  shut u v\nfunction tick\n  take 3 q\n"
        for program in (Program(FUNCTIONS), Program.of(*FUNCTIONS), parse_program(text)):
            for tell in (program.names, program.functions, program.frames, program.interrupts):
                self.stays(tell)
            for name in program.names():
                self.stays(lambda: program.uses(name))
            self.stays(lambda: list(program))

    def test_a_program_keeps_what_it_was_passed(self):
        passed = list(FUNCTIONS)
        program, same = Program(passed), Program(list(FUNCTIONS))
        for spoilt in (lambda: passed.pop(), lambda: passed.append(("new", (), (("take", 1, "z"),))), passed.clear):
            spoilt()
            self.assertEqual(program, same)
            self.assertEqual(repr(program), repr(same))
            self.assertEqual(len(program), 4)
            self.assertNotIn("new", program)
            self.is_same(program.frames(), ["p", "q", "r", "t"])
            self.is_same(program.interrupts(), ["u", "v"])
            self.is_same(program.uses("main"), ["back", "deep"])

    def test_what_a_house_tells(self):
        house = House(Program(FUNCTIONS), "main", HANDLERS, shut=("v",))
        self.stays(house.handlers)
        self.stays(lambda: list(house))
        handlers = house.handlers()
        handlers["u"] = ("back", 1, ())
        self.is_same(house.handler("u"), ("tick", 2, ("v",)))
        more = house.with_shut(["u"], handler="v")
        handlers = more.handlers()
        handlers.clear()
        self.is_same(more.handlers(), {"u": ("tick", 2, ("v",)), "v": ("tick", 1, ("u",))})
        self.is_same(house.handlers(), HANDLERS)

    def test_a_house_keeps_what_it_was_passed(self):
        handlers = dict(HANDLERS)
        house = House(Program(FUNCTIONS), "main", handlers)
        machine = Machine(house)
        handlers["u"] = ("back", 9, ())
        del handlers["v"]
        handlers["w"] = ("tick", 1, ())
        self.assertEqual(house, House(Program(FUNCTIONS), "main", HANDLERS))
        self.assertEqual([len(house), list(house), "w" in house], [2, ["u", "v"], False])
        self.is_same(machine.possible(), [("go",), ("come", "u"), ("come", "v")])
        interrupts = ["u"]
        shutting = house.with_shut(interrupts)
        interrupts.append("v")
        self.is_same(shutting.shut, ("u",))

    def test_what_a_machine_tells(self):
        machine = Machine(House(Program(FUNCTIONS), "main", HANDLERS))
        for event in [None, *EVENTS]:
            if event:
                machine.do(event)
            for tell in (machine.stack, machine.possible, machine.events):
                if tell():
                    self.stays(tell)
        self.is_same(machine.events(), EVENTS)

    def test_what_was_told_before_stays_when_a_machine_goes_on(self):
        machine = Machine(House(Program(FUNCTIONS), "main", HANDLERS))
        told = []
        for event in EVENTS:
            rows = (machine.line, machine.shut, machine.stack(), machine.possible(), machine.events())
            told.append((rows, copy.deepcopy(rows)))
            machine.do(event)
        for rows, before in told:
            self.is_same(rows, before)

    def test_clones_go_on_by_themselves(self):
        house = House(Program(FUNCTIONS), "main", HANDLERS)
        for at in range(len(EVENTS)):
            machine = played(house, EVENTS[:at])
            twin = machine.clone()
            self.assertEqual(machine, twin)
            told = copy.deepcopy((machine.line, machine.shut, machine.stack(), machine.possible(), machine.events()))
            for event in EVENTS[at:]:
                twin.do(event)
            now = (machine.line, machine.shut, machine.stack(), machine.possible(), machine.events())
            self.is_same(now, told)
            self.assertEqual(machine, played(house, EVENTS[:at]))
            self.assertEqual(twin, played(house, EVENTS))
            again = twin.clone()
            for event in EVENTS[at:]:
                machine.do(event)
            self.assertEqual(machine, twin)
            self.assertEqual(again, machine)
            again.do(("go",))
            self.assertNotEqual(again, twin)
            self.is_same(twin.events(), EVENTS)
            self.is_same(machine.possible(), twin.possible())

    def test_how_often_an_interrupt_stands_is_counted_for_each_clone(self):
        house = House(Program.of(("main", (), ()), ("tick", (), ())), "main", {"u": ("tick", 2, ())})
        machine = played(house, [("come", "u")])
        twin = machine.clone()
        twin.do(("come", "u"))
        self.is_same(twin.possible(), [("go",)])
        self.is_same(machine.possible(), [("go",), ("come", "u")])
        machine.do(("go",))
        machine.do(("come", "u"))
        self.is_same(machine.possible(), [("go",), ("come", "u")])
        self.is_same(twin.possible(), [("go",)])
        for _ in range(2):
            twin.do(("go",))
        self.is_same(twin.possible(), [("go",), ("come", "u")])

    def test_runs_keep_and_change_nothing(self):
        house = House(Program(FUNCTIONS), "main", HANDLERS)
        events = list(EVENTS)
        machine = played(house, events)
        events.append(("go",))
        self.is_same(machine.events(), EVENTS)
        rows = list(moments(house, EVENTS))
        self.is_same(list(moments(house, EVENTS)), rows)
        sizes = {"p": 1, "q": 1, "r": 1, "t": 1}
        self.is_same(deepest(house, EVENTS, sizes), deepest(house, EVENTS, sizes))
        self.is_same(sizes, {"p": 1, "q": 1, "r": 1, "t": 1})

    def test_machines_of_equal_houses_share_nothing(self):
        program = Program(FUNCTIONS)
        one, other = (Machine(House(program, "main", HANDLERS)) for _ in range(2))
        for event in EVENTS:
            one.do(event)
        self.is_same(other.events(), [])
        self.assertEqual(other, Machine(House(Program(FUNCTIONS), "main", HANDLERS)))
        self.assertNotEqual(one, other)


if __name__ == "__main__":
    unittest.main()
