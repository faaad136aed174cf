import random

from nestdeep.errors import InvalidChoice, InvalidSizes
from nestdeep.house import House
from nestdeep.machine import Machine
from nestdeep.programs import Program
from tests.helpers import BIG, Case, ODD_VALUES
from tests.model import ModelMachine

GO, LEFT, RIGHT, ROUND, LEAVE = ("go",), ("left",), ("right",), ("round",), ("leave",)
STOP = ("stop",)


def take(count, frame):
    return ("take", count, frame)


def shut(*interrupts):
    return ("shut", interrupts)


def come(interrupt):
    return ("come", interrupt)


def machine_of(body, *others, handlers=None, shut=(), events=()):
    """A machine whose task main has this body, behind these events."""
    made = Machine(House(Program([("main", (), tuple(body)), *others]), "main", handlers, shut=shut))
    for event in events:
        made.do(event)
    return made


def call_at(place, line=(), shut=(), instance=("main", ())):
    return (instance, place, line, shut)


class MachineCase(Case):
    def stands(self, machine, *calls):
        """The stack is one segment of the task with these calls."""
        self.is_same(machine.stack(), [(None, calls)])


class Beginning(MachineCase):
    def test_attributes(self):
        machine = machine_of([STOP])
        self.assertTrue(machine.house == House(Program([("main", (), (STOP,))]), "main"))
        self.is_same((machine.line, machine.shut, machine.ended), ((), (), False))
        self.is_same((len(machine), machine.events()), (1, []))
        self.stands(machine, call_at((0,)))
        self.assertTrue(Machine(house=machine.house) == machine)

    def test_the_shut_of_the_task(self):
        machine = machine_of([STOP], handlers={"u": ("main", 1, ()), "v": ("main", 1, ())}, shut=("u",))
        self.is_same((machine.shut, machine.possible()), (("u",), [come("v")]))
        self.stands(machine, call_at((0,)))

    def test_repr(self):
        machine = machine_of([STOP], handlers={"u": ("main", 9, ())})
        self.assertEqual(repr(machine), "Machine('main', 1)")
        machine.do(come("u"))
        machine.do(come("u"))
        self.assertEqual((repr(machine), len(machine)), ("Machine('main', 3)", 3))
        self.assertEqual(repr(machine_of([], events=[GO])), "Machine('main', 0)")

    def test_the_example(self):
        main = ("main", (), (("loop", 10 ** 12, (take(2, "p"), shut("u"))),))
        house = House(Program([main, ("tick", (), (take(1, "q"),))]), "main", {"u": ("tick", 1, ())})
        machine = Machine(house)
        self.is_same([machine.do(ROUND), machine.do(GO), machine.possible(), machine.stack()],
                     [(), (("p", 2),), [GO, come("u")], [(None, ((("main", ()), (0, 0, 1), (("p", 2),), ()),))]])


class Events(MachineCase):
    def test_take(self):
        machine = machine_of([take(2, "b"), take(1, "a"), take(BIG, "b")])
        self.is_same(machine.possible(), [GO])
        self.is_same(machine.do(GO), (("b", 2),))
        self.stands(machine, call_at((1,), (("b", 2),)))
        self.is_same(machine.do(event=GO), (("a", 1), ("b", 2)))
        self.is_same(machine.do(GO), (("a", 1), ("b", BIG + 2)))
        self.is_same((machine.line, machine.shut), ((("a", 1), ("b", BIG + 2)), ()))
        self.stands(machine, call_at((3,), (("a", 1), ("b", BIG + 2))))

    def test_shut(self):
        machine = machine_of([shut("v"), shut("u", "v"), shut("w")])
        self.is_same(machine.do(GO), ())
        self.is_same(machine.shut, ("v",))
        machine.do(GO)
        self.is_same(machine.shut, ("u", "v"))
        machine.do(GO)
        self.is_same(machine.shut, ("u", "v", "w"))
        self.stands(machine, call_at((3,), (), ("u", "v", "w")))

    def test_room(self):
        machine = machine_of([take(1, "a"), shut("u"), ("room", (take(2, "a"), shut("v"), take(3, "b"))), STOP])
        for _ in range(3):
            machine.do(GO)
        self.stands(machine, call_at((2, 0, 0), (("a", 1),), ("u",)))
        for _ in range(3):
            machine.do(GO)
        self.stands(machine, call_at((2, 0, 3), (("a", 3), ("b", 3)), ("u", "v")))
        self.is_same(machine.possible(), [GO])
        self.is_same(machine.do(GO), (("a", 1),))
        self.stands(machine, call_at((3,), (("a", 1),), ("u",)))
        self.is_same(machine.shut, ("u",))

    def test_empty_room(self):
        machine = machine_of([("room", ()), STOP], events=[GO])
        self.stands(machine, call_at((0, 0, 0)))
        machine.do(GO)
        self.stands(machine, call_at((1,)))

    def test_either(self):
        body = [("either", (take(1, "a"),), (take(1, "b"), shut("u"))), STOP]
        machine = machine_of(body)
        self.is_same(machine.possible(), [LEFT, RIGHT])
        other = machine.clone()
        machine.do(LEFT)
        self.stands(machine, call_at((0, 0, 0)))
        machine.do(GO)
        self.stands(machine, call_at((0, 0, 1), (("a", 1),)))
        machine.do(GO)
        self.stands(machine, call_at((1,), (("a", 1),)))
        other.do(RIGHT)
        self.stands(other, call_at((0, 1, 0)))
        other.do(GO)
        other.do(GO)
        self.stands(other, call_at((0, 1, 2), (("b", 1),), ("u",)))
        self.is_same(other.do(GO), (("b", 1),))
        self.stands(other, call_at((1,), (("b", 1),), ("u",)))

    def test_empty_either(self):
        for event, number in ((LEFT, 0), (RIGHT, 1)):
            machine = machine_of([("either", (), ()), STOP], events=[event])
            self.stands(machine, call_at((0, number, 0)))
            self.is_same(machine.possible(), [GO])
            machine.do(GO)
            self.stands(machine, call_at((1,)))

    def test_loop(self):
        machine = machine_of([("loop", 2, (take(1, "a"), shut("u"))), STOP])
        self.is_same(machine.possible(), [ROUND, LEAVE])
        for line in ((), (("a", 1),), (("a", 1),), (("a", 1),)):
            self.is_same(machine.do(ROUND if machine.possible()[0] == ROUND else GO), line)
        self.stands(machine, call_at((0,), (("a", 1),), ("u",)))
        self.is_same(machine.possible(), [ROUND, LEAVE])
        machine.do(ROUND)
        self.stands(machine, call_at((0, 0, 0), (("a", 1),), ("u",)))
        for _ in range(3):
            machine.do(GO)
        self.stands(machine, call_at((0,), (("a", 2),), ("u",)))
        self.is_same(machine.possible(), [LEAVE])
        self.is_same(machine.do(LEAVE), (("a", 2),))
        self.stands(machine, call_at((1,), (("a", 2),), ("u",)))

    def test_loop_of_one_round(self):
        machine = machine_of([("loop", 1, ()), STOP])
        self.is_same(machine.possible(), [ROUND, LEAVE])
        machine.do(ROUND)
        self.stands(machine, call_at((0, 0, 0)))
        machine.do(GO)
        self.is_same(machine.possible(), [LEAVE])
        machine.do(LEAVE)
        self.stands(machine, call_at((1,)))

    def test_loop_left_at_once(self):
        machine = machine_of([("loop", 7, (take(1, "a"),))], events=[LEAVE])
        self.stands(machine, call_at((1,)))

    def test_loops_of_very_many_and_of_any_rounds(self):
        for rounds in (10 ** 12, None):
            machine = machine_of([("loop", rounds, (take(1, "a"),))])
            for _ in range(50):
                self.is_same(machine.possible(), [ROUND, LEAVE])
                for event in (ROUND, GO, GO):
                    machine.do(event)
            self.is_same(machine.line, (("a", 50),))
            self.is_same(machine.possible(), [ROUND, LEAVE])

    def test_loop_that_is_come_to_again(self):
        machine = machine_of([("loop", 2, (("loop", 1, (take(1, "a"),)),))])
        for _ in range(2):
            self.is_same(machine.possible(), [ROUND, LEAVE])
            machine.do(ROUND)
            self.is_same(machine.possible(), [ROUND, LEAVE])
            for event in (ROUND, GO, GO):
                machine.do(event)
            self.is_same(machine.possible(), [LEAVE])
            machine.do(LEAVE)
            machine.do(GO)
        self.is_same((machine.possible(), machine.line), ([LEAVE], (("a", 2),)))

    def test_loop_in_a_function_that_is_called_again(self):
        loop = ("f", (), (("loop", 1, (take(1, "a"),)),))
        machine = machine_of([("call", "f", ()), ("call", "f", ())], loop)
        for _ in range(2):
            machine.do(GO)
            self.is_same(machine.possible(), [ROUND, LEAVE])
            for event in (ROUND, GO, GO, LEAVE, GO):
                machine.do(event)
        self.is_same(machine.line, ())

    def test_room_in_a_loop(self):
        machine = machine_of([("loop", None, (take(1, "a"), ("room", (take(1, "b"), shut("u")))))])
        for many in (1, 2, 3):
            self.is_same([machine.do(event) for event in (ROUND, GO, GO, GO, GO, GO, GO)][-2:], [(("a", many),)] * 2)
            self.stands(machine, call_at((0,), (("a", many),)))

    def test_loop_in_a_room(self):
        machine = machine_of([("room", (("loop", 3, (take(1, "a"),)),)), STOP], events=[GO, ROUND, GO, GO, LEAVE])
        self.stands(machine, call_at((0, 0, 1), (("a", 1),)))
        self.is_same(machine.do(GO), ())
        self.stands(machine, call_at((1,)))

    def test_stop(self):
        machine = machine_of([take(1, "a"), STOP, take(1, "a")], events=[GO])
        self.is_same((machine.possible(), machine.ended, machine.line), ([], False, (("a", 1),)))
        for event in (GO, LEFT, ROUND, LEAVE, come("u")):
            self.fails(InvalidChoice, {"value": event}, machine.do, event)
        self.stands(machine, call_at((1,), (("a", 1),)))

    def test_end(self):
        machine = machine_of([take(1, "a"), shut("u")], handlers={"v": ("main", 1, ())}, events=[GO, GO])
        self.is_same((machine.ended, machine.possible()), (False, [GO, come("v")]))
        self.is_same(machine.do(GO), ())
        self.is_same((machine.line, machine.shut, machine.ended), ((), (), True))
        self.is_same((machine.stack(), len(machine), machine.possible()), ([], 0, []))
        for event in (GO, come("v"), *ODD_VALUES):
            self.fails(InvalidChoice, {"value": event}, machine.do, event)
        self.is_same(machine.events(), [GO, GO, GO])

    def test_end_with_the_shut_of_the_task(self):
        machine = machine_of([], handlers={"v": ("main", 1, ())}, shut=("v",))
        self.is_same((machine.shut, machine.possible()), (("v",), [GO]))
        machine.do(GO)
        self.is_same((machine.shut, machine.ended), ((), True))

    def test_empty_task(self):
        machine = machine_of([])
        self.stands(machine, call_at((0,)))
        self.is_same(machine.possible(), [GO])
        self.is_same(machine.do(GO), ())
        self.assertIs(machine.ended, True)


class Calls(MachineCase):
    def test_call(self):
        f = ("f", (), (take(3, "b"), shut("v")))
        machine = machine_of([take(1, "a"), shut("u"), ("call", "f", ()), STOP], f, events=[GO, GO])
        self.is_same(machine.possible(), [GO])
        self.is_same(machine.do(GO), (("a", 1),))
        below = call_at((2,), (("a", 1),), ("u",))
        self.stands(machine, below, call_at((0,), instance=("f", ())))
        self.is_same(machine.do(GO), (("a", 1), ("b", 3)))
        machine.do(GO)
        self.is_same(machine.shut, ("u", "v"))
        self.stands(machine, below, call_at((2,), (("b", 3),), ("v",), ("f", ())))
        self.is_same(machine.do(GO), (("a", 1),))
        self.stands(machine, call_at((3,), (("a", 1),), ("u",)))
        self.is_same((machine.shut, len(machine)), (("u",), 1))

    def test_call_within_blocks(self):
        machine = machine_of([("loop", 2, (("either", (), (("call", "f", ()),)),))], ("f", (), ()))
        for event in (ROUND, RIGHT, GO):
            machine.do(event)
        self.stands(machine, call_at((0, 0, 0, 1, 0)), call_at((0,), instance=("f", ())))
        machine.do(GO)
        self.stands(machine, call_at((0, 0, 0, 1, 1)))
        machine.do(GO)
        machine.do(GO)
        self.stands(machine, call_at((0,)))
        self.is_same(machine.possible(), [ROUND, LEAVE])

    def test_rounds_are_counted_around_blocks(self):
        for inner, events in ((("either", (), ()), (LEFT, GO)), (("either", (), ()), (RIGHT, GO)), (("room", ()), (GO, GO)), (("loop", 3, ()), (ROUND, GO, LEAVE))):
            machine = machine_of([("loop", 2, (("room", (inner,)), inner))])
            for rounds in range(2):
                self.is_same(machine.possible(), [ROUND, LEAVE])
                for event in (ROUND, GO, *events, GO, *events, GO):
                    machine.do(event)
            self.is_same(machine.possible(), [LEAVE])

    def test_parameters(self):
        f = ("f", ("x", "y"), (("do", "y"), ("call", "g", ("x",)), ("call", "f", ("y", "x")), ("call", "f", ("a", "y"))))
        g = ("g", ("z",), (("do", "z"),))
        machine = machine_of([("call", "f", ("a", "b"))], f, g, ("a", (), (take(1, "p"),)), ("b", (), ()))
        machine.do(GO)
        main = call_at((0,))
        self.stands(machine, main, call_at((0,), instance=("f", ("a", "b"))))
        machine.do(GO)
        self.stands(machine, main, call_at((0,), instance=("f", ("a", "b"))), call_at((0,), instance=("b", ())))
        machine.do(GO)
        machine.do(GO)
        self.stands(machine, main, call_at((1,), instance=("f", ("a", "b"))), call_at((0,), instance=("g", ("a",))))
        machine.do(GO)
        self.stands(machine, main, call_at((1,), instance=("f", ("a", "b"))), call_at((0,), instance=("g", ("a",))),
                    call_at((0,), instance=("a", ())))
        for _ in range(4):
            machine.do(GO)
        self.stands(machine, main, call_at((2,), instance=("f", ("a", "b"))), call_at((0,), instance=("f", ("b", "a"))))
        machine.do(GO)
        self.is_same(machine.stack()[0][1][-1][0], ("a", ()))

    def test_passed_functions_by_their_names(self):
        f = ("f", ("x", "y"), (("call", "f", ("a", "y")),))
        machine = machine_of([("call", "f", ("b", "b"))], f, ("a", (), ()), ("b", (), ()), events=[GO, GO, GO])
        self.is_same([call[0] for call in machine.stack()[0][1]],
                     [("main", ()), ("f", ("b", "b")), ("f", ("a", "b")), ("f", ("a", "b"))])

    def test_recursion(self):
        machine = machine_of([take(1, "a"), ("call", "main", ()), STOP], events=[GO, GO] * 40)
        self.is_same(machine.line, (("a", 40),))
        self.assertEqual(len(machine.stack()[0][1]), 41)
        self.assertEqual(len(machine), 1)

    def test_what_a_call_took_ends_with_it_alone(self):
        f = ("f", (), (take(1, "a"), ("either", (("call", "f", ()),), ())))
        machine = machine_of([("call", "f", ())], f, events=[GO, GO, LEFT, GO, GO, RIGHT, GO])
        self.is_same(machine.line, (("a", 2),))
        self.is_same(machine.do(GO), (("a", 1),))
        self.is_same([call[1] for call in machine.stack()[0][1]], [(0,), (1, 0, 1)])


class Interrupts(MachineCase):
    HANDLERS = {"u": ("tick", 2, ()), "v": ("tock", 1, ("u",)), "w": ("tick", 10 ** 12, ("w",))}
    FUNCTIONS = (("tick", (), (take(1, "t"),)), ("tock", (), (shut("w"), STOP)))

    def machine(self, *body, shut=(), events=()):
        return machine_of(body, *self.FUNCTIONS, handlers=self.HANDLERS, shut=shut, events=events)

    def test_at_the_first_moment(self):
        machine = self.machine(take(1, "m"))
        self.is_same(machine.possible(), [GO, come("u"), come("v"), come("w")])
        self.is_same(machine.do(come("u")), ())
        self.is_same(machine.stack(), [(None, (call_at((0,)),)), ("u", (call_at((0,), instance=("tick", ())),))])
        self.is_same((len(machine), machine.shut), (2, ()))

    def test_the_order_of_what_is_possible(self):
        machine = self.machine(("either", (), ()), ("loop", 3, ()))
        self.is_same(machine.possible(), [LEFT, RIGHT, come("u"), come("v"), come("w")])
        machine.do(RIGHT)
        machine.do(GO)
        self.is_same(machine.possible(), [ROUND, LEAVE, come("u"), come("v"), come("w")])

    def test_at_a_stop_and_at_each_end(self):
        machine = self.machine(STOP)
        self.is_same(machine.possible(), [come("u"), come("v"), come("w")])
        machine = self.machine(("room", ()), events=[GO])
        self.is_same(machine.possible(), [GO, come("u"), come("v"), come("w")])
        machine = self.machine()
        self.is_same(machine.possible(), [GO, come("u"), come("v"), come("w")])

    def test_how_often(self):
        machine = self.machine(events=[come("u")])
        self.assertIn(come("u"), machine.possible())
        machine.do(come("u"))
        self.is_same(machine.possible(), [GO, come("v"), come("w")])
        self.fails(InvalidChoice, {"value": come("u")}, machine.do, come("u"))
        machine.do(GO)
        self.is_same(machine.line, (("t", 1),))
        self.is_same(machine.possible(), [GO, come("v"), come("w")])
        machine.do(GO)
        self.is_same((machine.line, len(machine)), ((), 2))
        self.is_same(machine.possible(), [GO, come("u"), come("v"), come("w")])

    def test_times_of_very_many(self):
        machine = machine_of([STOP], handlers={"u": ("main", 10 ** 12, ())}, events=[come("u")] * 100)
        self.is_same((machine.possible(), len(machine)), ([come("u")], 101))

    def test_shut_by_the_task(self):
        self.is_same(self.machine(STOP, shut=("u", "w")).possible(), [come("v")])
        machine = self.machine(STOP, shut=("u", "w"), events=[come("v")])
        self.is_same(machine.possible(), [GO])
        self.is_same(machine.shut, ("u", "w"))

    def test_shut_by_a_handler_that_stands(self):
        machine = self.machine(STOP, events=[come("w")])
        self.is_same((machine.possible(), machine.shut), ([GO, come("u"), come("v")], ("w",)))
        machine.do(come("v"))
        self.is_same((machine.possible(), machine.shut), ([GO], ("u", "w")))
        machine.do(GO)
        self.is_same((machine.possible(), machine.shut), ([], ("u", "w")))
        machine = self.machine(STOP, events=[come("w"), GO, GO])
        self.is_same((machine.possible(), machine.shut), ([come("u"), come("v"), come("w")], ()))

    def test_shut_by_any_call(self):
        machine = machine_of([shut("v"), ("call", "g", ())], ("g", (), (shut("u"),)), *self.FUNCTIONS,
                             handlers=self.HANDLERS, events=[GO, GO, GO])
        self.is_same((machine.possible(), machine.shut), ([GO, come("w")], ("u", "v")))
        machine.do(come("w"))
        self.is_same((machine.possible(), machine.shut), ([GO], ("u", "v", "w")))
        machine.do(GO)
        machine.do(GO)
        self.is_same((machine.possible(), machine.shut), ([GO, come("w")], ("u", "v")))
        machine.do(GO)
        self.is_same((machine.possible(), machine.shut), ([GO, come("u"), come("w")], ("v",)))

    def test_shut_within_a_room(self):
        machine = self.machine(("room", (shut("u", "v"),)), events=[GO, GO])
        self.is_same(machine.possible(), [GO, come("w")])
        machine.do(GO)
        self.is_same(machine.possible(), [GO, come("u"), come("v"), come("w")])

    def test_shutting_what_has_no_handler(self):
        machine = machine_of([shut("a", "u"), STOP], handlers={"v": ("main", 1, ())}, events=[GO])
        self.is_same((machine.shut, machine.possible()), (("a", "u"), [come("v")]))
        self.fails(InvalidChoice, {"value": come("a")}, machine.do, come("a"))
        self.fails(InvalidChoice, {"value": come("b")}, machine.do, come("b"))

    def test_what_runs_goes_on_where_it_was(self):
        machine = self.machine(("loop", 1, (take(1, "m"),)), events=[ROUND, GO, come("u"), GO])
        self.is_same(machine.line, (("m", 1), ("t", 1)))
        machine.do(GO)
        self.is_same(machine.stack(), [(None, (call_at((0, 0, 1), (("m", 1),)),))])
        machine.do(GO)
        self.is_same(machine.possible(), [LEAVE, come("u"), come("v"), come("w")])

    def test_handlers_that_call(self):
        machine = machine_of([take(1, "m"), STOP], ("h", (), (take(1, "h"), ("call", "k", ()), take(5, "h"))),
                             ("k", (), (take(1, "k"),)), handlers={"u": ("h", 1, ())}, events=[GO, come("u"), GO, GO, GO])
        self.is_same(machine.line, (("h", 1), ("k", 1), ("m", 1)))
        self.is_same(machine.stack(), [(None, (call_at((1,), (("m", 1),)),)), (
            "u", (call_at((1,), (("h", 1),), (), ("h", ())), call_at((1,), (("k", 1),), (), ("k", ()))))])
        machine.do(GO)
        self.is_same(machine.stack()[1], ("u", (call_at((2,), (("h", 1),), (), ("h", ())),)))

    def test_the_task_as_handler(self):
        machine = machine_of([take(1, "m")], handlers={"u": ("main", 1, ())}, events=[GO, come("u"), GO])
        self.is_same(machine.line, (("m", 2),))
        machine.do(GO)
        self.is_same((machine.ended, machine.line), (False, (("m", 1),)))
        machine.do(GO)
        self.is_same(machine.ended, True)


class Depths(MachineCase):
    def test_depth(self):
        machine = machine_of([take(2, "p"), take(3, "q")], ("f", (), (take(1, "a"),)), events=[GO, GO])
        self.gives(2 * 5 + 3 * 7, machine.depth, {"q": 7, "p": 5, "a": 1, "zz": None, 3: True})
        self.gives(2 * BIG + 3, machine.depth, {"q": 1, "p": BIG, "a": 1})
        self.is_same(machine.depth(sizes={"q": 1, "p": 1, "a": 1}), 5)
        machine.do(GO)
        self.is_same(machine.depth({"q": 7, "p": 5, "a": 1}), 0)

    def test_wrong_sizes(self):
        for events in ([], [GO, GO], [GO, GO, GO]):
            machine = machine_of([take(2, "q"), take(3, "p")], ("f", (), (take(1, "a"),)), events=events)
            for sizes in [value for value in ODD_VALUES if not isinstance(value, dict)] + [("a", "p", "q")]:
                self.fails(InvalidSizes, {"name": None}, machine.depth, sizes)
            self.fails(InvalidSizes, {"name": "a"}, machine.depth, {})
            self.fails(InvalidSizes, {"name": "p"}, machine.depth, {"a": 1})
            self.fails(InvalidSizes, {"name": "q"}, machine.depth, {"p": 1, "a": 1})
            for wrong in (0, -1, True, False, None, "1", (1,), [], object()):
                self.fails(InvalidSizes, {"name": "p"}, machine.depth, {"q": wrong, "p": wrong, "a": 1})

    def test_without_frames(self):
        machine = machine_of([])
        self.is_same(machine.depth({}), 0)
        self.fails(InvalidSizes, {"name": None}, machine.depth, None)


class Choices(MachineCase):
    def test_events_that_are_not_possible(self):
        wrong = [*ODD_VALUES, "go", ["go"], ("go", None), ("go", "u"), (("go",),), b"go", ("Go",), ("",), ("come",), ("come", None),
                 ("come", ["u"]), ("come", ("u",)), ("come", "nope"), ["come", "u"], ("come", "u", "u"), ("come", True)]
        handlers = {"u": ("main", 1, ())}
        for body, possible in (([take(1, "a")], [GO]), ([("either", (), ())], [LEFT, RIGHT]), ([("loop", 2, ())], [ROUND, LEAVE]),
                               ([STOP], [])):
            machine = machine_of(body, handlers=handlers)
            for event in [*wrong, *[event for event in (GO, LEFT, RIGHT, ROUND, LEAVE) if event not in possible]]:
                self.fails(InvalidChoice, {"value": event}, machine.do, event)
            self.stands(machine, call_at((0,)))
            self.is_same((machine.events(), machine.line, len(machine)), ([], (), 1))
            self.assertTrue(machine == machine_of(body, handlers=handlers))

    def test_an_error_changes_nothing(self):
        machine = machine_of([("loop", 1, (take(1, "a"),)), take(1, "b")], events=[ROUND, GO, GO])
        before = (machine.stack(), machine.events(), machine.line, machine.shut, machine.possible(), machine.clone())
        for event in (ROUND, GO, None, come("u")):
            self.fails(InvalidChoice, {"value": event}, machine.do, event)
        after = (machine.stack(), machine.events(), machine.line, machine.shut, machine.possible())
        self.is_same(after, before[:5])
        self.assertTrue(machine == before[5])
        machine.do(LEAVE)
        self.is_same(machine.do(GO), (("a", 1), ("b", 1)))

    def test_events(self):
        machine = machine_of([take(1, "a"), ("either", (), ())], handlers={"u": ("main", 1, ())})
        done = [GO, come("u"), GO, RIGHT]
        for event in done:
            machine.do(event)
        self.is_same(machine.events(), done)
        machine.events().clear()
        machine.events().append(GO)
        self.is_same(machine.events(), done)

    def test_returned_lists_are_new(self):
        machine = machine_of([take(1, "a")], handlers={"u": ("main", 1, ())})
        machine.possible().clear()
        machine.stack().clear()
        self.is_same(machine.possible(), [GO, come("u")])
        self.stands(machine, call_at((0,)))
        self.gives([GO, come("u")], machine.possible)


class Equality(MachineCase):
    def equal(self, one, other, wanted):
        self.assertIs(one == other, wanted)
        self.assertIs(other == one, wanted)
        self.assertIs(one != other, not wanted)

    def test_equal_by_other_events(self):
        body = [("either", (), ()), take(1, "a")]
        self.equal(machine_of(body, events=[LEFT, GO]), machine_of(body, events=[RIGHT, GO]), True)
        self.equal(machine_of(body), machine_of(body), True)
        self.equal(machine_of(body), machine_of(body, events=[LEFT]), False)
        self.equal(machine_of(body, events=[RIGHT]), machine_of(body, events=[LEFT]), False)

    def test_behind_a_handler(self):
        machine = machine_of([STOP], ("f", (), ()), handlers={"u": ("f", 1, ())}, events=[come("u"), GO])
        self.equal(machine, machine_of([STOP], ("f", (), ()), handlers={"u": ("f", 1, ())}), True)

    def test_other_houses(self):
        self.equal(machine_of([STOP]), machine_of([take(1, "a")]), False)
        self.equal(machine_of([STOP]), machine_of([STOP], handlers={"u": ("main", 1, ())}), False)
        handlers = {"u": ("main", 1, ())}
        self.equal(machine_of([STOP], handlers=handlers), machine_of([STOP], handlers=handlers, shut=("u",)), False)
        self.equal(machine_of([], events=[GO]), machine_of([], ("f", (), ()), events=[GO]), False)

    def test_other_values(self):
        machine = machine_of([STOP])
        for value in [*ODD_VALUES, machine.house, machine.stack(), repr(machine)]:
            self.equal(machine, value, False)

    def test_rounds_begun_at_the_loop(self):
        for rounds in (5, None):
            body = [("loop", rounds, ())]
            none, one, two = [machine_of(body, events=[ROUND, GO] * many) for many in range(3)]
            self.is_same(none.stack(), two.stack())
            self.equal(none, one, False)
            self.equal(one, two, False)
            self.equal(one, machine_of(body, events=[ROUND, GO]), True)
            self.equal(machine_of(body, events=[ROUND]), machine_of(body, events=[ROUND, GO, ROUND]), False)

    def test_rounds_of_a_loop_that_is_done(self):
        body = [("loop", None, ()), STOP]
        self.equal(machine_of(body, events=[LEAVE]), machine_of(body, events=[ROUND, GO, ROUND, GO, LEAVE]), True)

    def test_rounds_of_an_outer_loop(self):
        body = [("loop", 5, (("loop", 3, ()),))]
        once = machine_of(body, events=[ROUND, LEAVE, GO, ROUND])
        self.equal(once, machine_of(body, events=[ROUND]), False)
        self.is_same(once.stack(), machine_of(body, events=[ROUND]).stack())
        self.equal(once, machine_of(body, events=[ROUND, ROUND, GO, LEAVE, GO, ROUND]), True)

    def test_rounds_below_calls(self):
        body = [("loop", None, (("call", "f", ()),))]
        f = ("f", (), (STOP,))
        events = [ROUND, GO]
        other = machine_of(body, f, events=events)
        self.equal(machine_of(body, f, events=events), other, True)
        f = ("f", (), ())
        self.equal(machine_of(body, f, events=events), machine_of(body, f, events=[ROUND, GO, GO, GO, ROUND, GO]), False)

    def test_beginnings_of_rooms(self):
        body = [("either", (take(1, "a"), ("room", (STOP,))), ())]
        self.equal(machine_of(body, events=[LEFT, GO, GO]), machine_of(body, events=[LEFT, GO, GO]), True)
        body = [("loop", 1, (take(2, "a"),)), ("room", (("loop", 1, (take(2, "a"),)), STOP))]
        early = machine_of(body, events=[ROUND, GO, GO, LEAVE, GO, LEAVE])
        late = machine_of(body, events=[LEAVE, GO, ROUND, GO, GO, LEAVE])
        self.is_same(early.stack(), late.stack())
        self.equal(early, late, False)
        body = [("loop", 1, (shut("u"),)), ("room", (("loop", 1, (shut("u"),)), STOP))]
        early = machine_of(body, events=[ROUND, GO, GO, LEAVE, GO, LEAVE])
        late = machine_of(body, events=[LEAVE, GO, ROUND, GO, GO, LEAVE])
        self.is_same((early.stack(), early.shut), (late.stack(), late.shut))
        self.equal(early, late, False)

    def test_rooms_that_are_done(self):
        body = [("loop", 1, (take(2, "a"),)), ("room", (("loop", 1, (take(2, "a"),)),)), ("loop", 1, (take(2, "a"),)), STOP]
        early = machine_of(body, events=[ROUND, GO, GO, LEAVE, GO, LEAVE, GO, LEAVE])
        late = machine_of(body, events=[LEAVE, GO, ROUND, GO, GO, LEAVE, GO, ROUND, GO, GO, LEAVE])
        self.equal(early, late, True)


class Clones(MachineCase):
    def test_clones_go_on_by_themselves(self):
        machine = machine_of([("loop", 3, (take(1, "a"),)), STOP], handlers={"u": ("main", 2, ())}, events=[ROUND, GO])
        twin = machine.clone()
        self.assertIs(type(twin), Machine)
        self.assertTrue(twin == machine)
        self.is_same((twin.events(), twin.line, twin.shut, twin.ended), ([ROUND, GO], (("a", 1),), (), False))
        twin.do(GO)
        twin.do(come("u"))
        self.stands(machine, call_at((0, 0, 1), (("a", 1),)))
        self.is_same((machine.events(), len(machine)), ([ROUND, GO], 1))
        machine.do(come("u"))
        machine.do(ROUND)
        machine.do(GO)
        self.is_same((machine.line, twin.line), ((("a", 2),), (("a", 1),)))
        self.is_same(twin.events(), [ROUND, GO, GO, come("u")])
        self.assertFalse(twin == machine)

    def test_clones_of_calls(self):
        machine = machine_of([take(1, "a"), ("call", "main", ())], events=[GO, GO])
        twin = machine.clone()
        machine.do(GO)
        self.is_same((machine.line, twin.line), ((("a", 2),), (("a", 1),)))
        twin.do(GO)
        twin.do(GO)
        self.is_same((len(machine.stack()[0][1]), len(twin.stack()[0][1])), (2, 3))

    def test_clone_of_one_that_has_ended(self):
        twin = machine_of([], events=[GO]).clone()
        self.is_same((twin.ended, twin.stack(), twin.events(), twin.possible()), (True, [], [GO], []))


class Walks(MachineCase):
    """Random walks, side by side with the model."""

    F = ("f", ("x", "y"), (
        ("do", "x"), ("loop", 2, (take(1, "a"), ("room", (shut("v"), ("do", "y"), take(2, "b"))))),
        ("either", (shut("u"),), (("call", "f", ("y", "tick")), ("room", ()))), take(1, "c"),
    ))
    MAIN = ("main", (), (
        ("loop", None, (take(1, "a"), ("either", (("call", "f", ("tick", "halt")),), (("call", "f", ("tock", "tick")), STOP)))),
        ("room", (("loop", 3, (("loop", 1, (shut("w"), take(1, "d"))), ("room", (("loop", 2, ()),)))),)), ("call", "tock", ()),
    ))
    PROGRAM = Program([F, MAIN, ("tick", (), (take(1, "t"),)), ("tock", (), (("loop", 1, (shut("u"),)), ("room", (take(1, "t"),)))),
                       ("halt", (), (("either", (STOP,), ()),))])
    HOUSES = [
        House(PROGRAM, "main", {"u": ("tock", 2, ()), "v": ("main", 1, ("v", "w")), "w": ("tick", 3, ("u",))}, shut=("w",)),
        House(PROGRAM, "main", {"u": ("tock", 1, ("v",)), "v": ("halt", 2, ())}),
        House(PROGRAM, "tock", {"z": ("main", 2, ())}),
        House(PROGRAM, "main"),
    ]

    def test_walks(self):
        for seed in range(40):
            source = random.Random(seed)
            house = self.HOUSES[seed % 4]
            machine, model, halfway = Machine(house), ModelMachine(house), None
            for step in range(120):
                possible = machine.possible()
                self.is_same(possible, model.possible())
                self.is_same((machine.line, machine.shut, machine.stack()), (model.line(), model.shut(), model.stack()))
                self.is_same((machine.ended, len(machine)), (not model.segments, len(model.segments)))
                if step == 50:
                    halfway = machine.clone(), machine.stack()
                if not possible:
                    break
                event = source.choice(possible)
                model.do(event)
                self.is_same(machine.do(event), model.line())
            again = Machine(house)
            for event in machine.events():
                again.do(event)
            self.assertTrue(again == machine)
            if halfway:
                self.is_same(halfway[0].stack(), halfway[1])
