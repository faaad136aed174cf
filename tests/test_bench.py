import copy
import random
import unittest

from nestdeep.bench import Bench
from nestdeep.errors import (
    InvalidCount, InvalidHouse, InvalidName, InvalidProgram, InvalidSizes, NothingToUndo, TooMany, UnknownFunction, UnknownName,
)
from nestdeep.forming import form_of, forms
from nestdeep.forms import Form
from nestdeep.house import House
from nestdeep.nests import lines_of
from nestdeep.programs import Program
from tests.benches import ERRORS, ModelBench, some_deed, told_error
from tests.helpers import BIG, NO_NAMES, ODD_VALUES, Case
from tests.houses import call
from tests.odd import odd_keys, odd_values
from tests.test_bodies import curve

A, B, STOP, DO_C, DO_D = ("take", 1, "a"), ("take", 1, "b"), ("stop",), ("do", "c"), ("do", "d")
MAIN, TICK, EACH = ("main", (), (A, call("each", "tick"))), ("tick", (), (("take", 3, "b"),)), ("each", ("c",), (A, DO_C))
ROWS = [MAIN, TICK, EACH]
NINE = [("nine", (), tuple(call(letter * 2) for letter in "abcdefghi")), *((letter * 2, (), ()) for letter in "abcdefghi")]


def line(**counts):
    return tuple(sorted(counts.items()))


def bench_with(*rows):
    bench = Bench()
    bench.put(list(rows))
    return bench


def whole(bench):
    """All that a bench tells."""
    program = bench.current()
    names = [] if program is None else program.names()
    return (repr(program), [(name, repr(bench.form(name)), bench.reach(name)) for name in names],
            [(name, repr(bench.entry(name)), bench.entry(name)[0].handlers(), bench.entry(name)[0].shut, bench.state(name), bench.lines(name)) for name in bench.names()])


class BenchCase(Case):
    def refuses(self, bench, error, fields, action, *args, **named):
        """The deed raises this error, and the bench is as before, also when deeds are taken back."""
        before, twin = whole(bench), bench.clone()
        with self.assertRaises(error) as caught:
            action(*args, **named)
        self.assertIs(type(caught.exception), error)
        for name, value in fields.items():
            self.assertIs(getattr(caught.exception, name), value) if not isinstance(value, (str, int, tuple)) else self.is_same(getattr(caught.exception, name), value)
        self.assertEqual(whole(bench), before)
        self.assertTrue(bench == twin)
        other = bench.clone()
        while True:
            try:
                twin.undo()
            except NothingToUndo:
                self.assertRaises(NothingToUndo, other.undo)
                break
            other.undo()
            self.assertEqual(whole(other), whole(twin))


class Deeds(BenchCase):
    def test_an_empty_bench(self):
        bench = Bench()
        self.assertIsNone(bench.current())
        self.is_same(bench.names(), [])
        for name in ("main", *ODD_VALUES, *odd_values()):
            self.refuses(bench, UnknownFunction, {"name": name}, bench.form, name)
            self.refuses(bench, UnknownFunction, {"name": name}, bench.reach, name)
            self.refuses(bench, UnknownFunction, {"name": name}, bench.drop, [name])
            for action in (bench.entry, bench.state, bench.lines, bench.drop_entry):
                self.refuses(bench, UnknownName, {"name": name}, action, name)
        self.refuses(bench, NothingToUndo, {}, bench.undo)
        self.refuses(bench, InvalidHouse, {"problem": "program", "name": None}, bench.set_entry, "h", House(Program(ROWS), "main"))
        self.is_same(bench.drop([]), ((), (), ()))
        self.assertIsNone(bench.undo())

    def test_put(self):
        bench = Bench()
        self.is_same(bench.put(ROWS), (("each", "main", "tick"), ("each", "main", "tick"), ()))
        self.assertEqual(bench.current(), Program(ROWS))
        self.is_same(bench.put((TICK,)), (("tick",), (), ()))
        self.is_same(bench.put(functions=[("tick", (), (("take", 4, "b"),))]), (("main", "tick"), ("main", "tick"), ()))
        self.is_same(bench.form("main"), form_of(bench.current(), "main"))
        self.is_same(bench.put([("each", ("c",), (A, ("room", (DO_C,)), ("either", (), ())))]), (("each",), (), ()))
        self.is_same(bench.put([("each", ("d",), (A, DO_D))]), (("each", "main"), ("each",), ()))
        self.is_same(bench.put([("new", (), (call("main"),)), MAIN]), (("main", "new"), ("new",), ()))

    def test_drop(self):
        bench = bench_with(*ROWS, ("more", (), (call("main"),)), ("last", (), ()))
        self.is_same(bench.drop(["last"]), ((), ("last",), ()))
        self.is_same(bench.drop(("more", "main", "more")), ((), ("main", "more"), ()))
        self.is_same(bench.drop(names=["tick"]), ((), ("tick",), ()))
        self.assertEqual(bench.current().names(), ["each"])
        self.is_same(bench.drop(["each"]), ((), ("each",), ()))
        self.assertIsNone(bench.current())
        for _ in range(4):
            bench.undo()
        self.assertEqual(len(bench.current()), 5)

    def test_functions_that_use_each_other(self):
        ping, pong = ("ping", (), (A, ("either", (call("pong"),), ()))), ("pong", (), (("either", (call("ping"),), ()),))
        bench = Bench()
        for row, other in ((ping, "pong"), (pong, "ping")):
            self.refuses(bench, InvalidProgram, {"problem": "call", "name": row[0]}, bench.put, [row])
        self.is_same(bench.put([ping, pong]), (("ping", "pong"), ("ping", "pong"), ()))
        self.is_same(bench.form("ping").endless, ((),))
        self.is_same(bench.put([("user", (), (call("pong"),))]), (("user",), ("user",), ()))
        self.is_same(bench.reach("ping"), ("ping", "pong", "user"))
        self.is_same(bench.put([pong]), (("ping", "pong"), (), ()))
        self.is_same(bench.put([("ping", (), (("either", (call("pong"),), ()),))]), (("ping", "pong", "user"), ("ping", "pong", "user"), ()))
        for names in (["ping"], ["pong"]):
            self.refuses(bench, InvalidProgram, {"problem": "call", "name": "pong" if names == ["ping"] else "ping"}, bench.drop, names)
        self.is_same(bench.drop(["user"]), ((), ("user",), ()))
        self.is_same(bench.drop(["pong", "ping"]), ((), ("ping", "pong"), ()))
        self.assertIsNone(bench.current())

    def test_a_group_that_is_parted(self):
        bench = bench_with(("f", (), (A, call("g"))), ("g", (), (("either", (call("f"), STOP), ()),)))
        self.is_same(bench.form("f").endless, ((),))
        self.is_same(bench.put([("g", (), ())]), (("f", "g"), ("f", "g"), ()))
        self.is_same(bench.put([("g", (), (("room", ()),))]), (("g",), (), ()))

    def test_parameters_exchanged(self):
        user = ("user", (), (call("two", "tick", "tick"),))
        bench = bench_with(TICK, ("two", ("c", "d"), (("either", (DO_C,), (DO_D,)),)), user)
        before = bench.form("two")
        self.is_same(bench.put([("two", ("d", "c"), (("either", (DO_C,), (DO_D,)),))]), (("two", "user"), (), ()))
        self.assertEqual(bench.form("two"), before)
        self.is_same(bench.put([("two", ("d", "c"), (("either", (DO_D,), (DO_C,)),))]), (("two",), (), ()))
        self.is_same(bench.put([("two", ("e", "f"), (("either", (("do", "e"),), (("do", "f"),)),))]), (("two", "user"), ("two",), ()))
        self.refuses(bench, InvalidProgram, {"problem": "args", "name": "user"}, bench.put, [("two", ("c",), ())])

    def test_a_change_stops_where_forms_stay(self):
        bench = bench_with(("low", (), (("take", 2, "a"),)), ("mid", (), (call("low"), ("take", 9, "a"))), ("top", (), (call("mid"),)), ("passer", (), (call("each", "low"),)), EACH)
        self.is_same(bench.put([("low", (), (("take", 5, "a"),))]), (("low", "mid", "passer"), ("low", "passer"), ()))
        self.is_same(bench.put([("low", (), (("take", 10, "a"),))]), (("low", "mid", "passer", "top"), ("low", "mid", "passer", "top"), ()))
        self.is_same(bench.reach("low"), ("low", "mid", "passer", "top"))
        self.is_same(bench.reach("each"), ("each", "passer"))
        self.is_same(bench.reach(function="top"), ("top",))
        for name in (*ODD_VALUES, *odd_values(), "c", "none"):
            self.refuses(bench, UnknownFunction, {"name": name}, bench.reach, name)
            self.refuses(bench, UnknownFunction, {"name": name}, bench.form, name)

    def test_wrong_functions(self):
        bench = bench_with(*ROWS)
        for value in (*ODD_VALUES, *odd_values(), {"f": 1}, "f"):
            if not isinstance(value, (list, tuple)) or not value:
                self.refuses(bench, InvalidProgram, {"problem": "functions", "name": ""}, bench.put, value)
        for row in (None, "f", [], ("f", ()), list(MAIN), *odd_values()):
            self.refuses(bench, InvalidProgram, {"problem": "function", "name": "1"}, bench.put, [TICK, row, None])
        for name in (*NO_NAMES, *odd_values()):
            self.refuses(bench, InvalidProgram, {"problem": "name", "name": "0"}, bench.put, [(name, None, None), None])
        self.refuses(bench, InvalidProgram, {"problem": "repeated", "name": "tick"}, bench.put, [TICK, MAIN, TICK])
        self.refuses(bench, InvalidProgram, {"problem": "params", "name": "tick"}, bench.put, [("tick", ("c", "c"), None)])
        self.refuses(bench, InvalidProgram, {"problem": "params", "name": "tick"}, bench.put, [("tick", ["c"], None), None])
        self.refuses(bench, InvalidProgram, {"problem": "functions", "name": ""}, bench.put, [("f" + letter, (), ()) for letter in "abcdefghijklmnopqrstuvwxy"])

    def test_programs_that_are_none(self):
        bench = bench_with(*ROWS)
        # Of all that are there then, in the sequence of their names: also those that stay.
        self.refuses(bench, InvalidProgram, {"problem": "parameter", "name": "each"}, bench.put, [("c", (), ())])
        self.refuses(bench, InvalidProgram, {"problem": "body", "name": "c"}, bench.put, [("c", (), None)])
        self.refuses(bench, InvalidProgram, {"problem": "body", "name": "new"}, bench.put, [("tick", (), None), ("new", (), None)])
        self.refuses(bench, InvalidProgram, {"problem": "statements", "name": "tick"}, bench.put, [("tick", (), (("room", (A,) * 12),) * 5)])
        self.refuses(bench, InvalidProgram, {"problem": "args", "name": "main"}, bench.put, [("tick", ("e",), ()), ("zz", (), (call("none"),))])
        self.refuses(bench, InvalidProgram, {"problem": "call", "name": "less"}, bench.put, [("tick", ("e",), ()), ("less", (), (call("none"),))])
        self.refuses(bench, InvalidProgram, {"problem": "do", "name": "tick"}, bench.put, [("tick", (), (DO_C,))])
        self.refuses(bench, InvalidProgram, {"problem": "frames", "name": ""}, bench.put, [("tick", (), tuple(("take", 1, name) for name in "pqrstu"))])
        self.refuses(bench, InvalidProgram, {"problem": "interrupts", "name": ""}, bench.put, [("tick", (), (("shut", tuple("pqrstu")),))])
        self.refuses(bench, InvalidProgram, {"problem": "functions", "name": ""}, bench.put, [("f" + letter, (), ()) for letter in "abcdefghijklmnopqrstuv"])
        self.is_same(len(bench.put([("f" + letter, (), ()) for letter in "abcdefghijklmnopqrstu"])[0]), 21)
        for names, problem in ((["tick"], "args"), (["each"], "call"), (["each", "tick"], "call")):
            self.refuses(bench, InvalidProgram, {"problem": problem, "name": "main"}, bench.drop, names)
        for value in (*ODD_VALUES, *odd_values(), "none", "c"):
            self.refuses(bench, UnknownFunction, {"name": value}, bench.drop, ["main", value, "none", None])
        self.refuses(bench, UnknownFunction, {"name": "none"}, bench.drop, ["tick", "none"])

    def test_too_many(self):
        bench = bench_with(*ROWS)
        self.refuses(bench, TooMany, {"name": "nine"}, bench.put, NINE)
        self.refuses(bench, TooMany, {"name": "nine"}, bench.put, [*NINE, ("aaa", (), (call("nine"),))])
        curves = bench_with(("main", (), curve(15)), ("hu", (), curve(15, "wx")), ("hv", (), curve(15, "yz")), ("hw", (), (("take", 1, "w"),)))
        handlers = {"u": ("hu", 1, ()), "v": ("hv", 1, ())}
        self.refuses(curves, TooMany, {"name": None}, curves.set_entry, "h", House(curves.current(), "main", handlers))
        self.refuses(curves, TooMany, {"name": None}, curves.set_entry, "h", House(curves.current(), "main", handlers, shut=("v",)))
        curves.set_entry("h", House(curves.current(), "main", handlers, shut=("u", "v")))
        curves.set_entry("k", House(curves.current(), "main", {"u": ("hw", 1, ())}))
        self.refuses(curves, TooMany, {"name": None}, curves.put, [("hw", (), curve(15, "yz"))])
        self.is_same(len(curves.lines("k")), 15)


class Entries(BenchCase):
    def test_entries(self):
        bench = bench_with(*ROWS)
        house = House(bench.current(), "main", {"u": ("tick", 2, ("u",))})
        self.is_same(bench.set_entry("h", house, sizes={"a": 2, "b": 1, "z": 5}, limit=9), ((), (), ("h",)))
        self.assertEqual(bench.entry("h"), (house, {"a": 2, "b": 1}, 9))
        self.is_same((bench.names(), bench.lines("h"), bench.state("h")), (["h"], (line(a=2, b=6),), "exceeded"))
        self.is_same(bench.set_entry(name="h", house=house, limit=10, sizes={"a": 2, "b": 1}), ((), (), ("h",)))
        self.is_same(bench.state("h"), "kept")
        self.is_same(bench.set_entry("b", House(Program(ROWS), "tick")), ((), (), ("b",)))
        self.assertEqual(bench.entry("b"), (House(Program(ROWS), "tick"), None, None))
        self.is_same((bench.names(), bench.state("b"), bench.lines(name="b")), (["b", "h"], "open", (line(b=3),)))
        self.is_same(bench.drop_entry("h"), ((), (), ("h",)))
        self.is_same(bench.names(), ["b"])
        for name in (*ODD_VALUES, *odd_values(), "h", "main"):
            for action in (bench.entry, bench.state, bench.lines, bench.drop_entry):
                self.refuses(bench, UnknownName, {"name": name}, action, name)

    def test_states(self):
        bench = bench_with(*ROWS, ("deep", (), (A, call("deep"))))
        sizes = {"a": 1, "b": 1}
        for task, named, state in (("deep", {}, "endless"), ("deep", {"sizes": sizes, "limit": BIG}, "endless"), ("main", {}, "open"), ("main", {"sizes": sizes}, "open"), ("main", {"limit": 5}, "open"),
                                   ("main", {"sizes": sizes, "limit": 5}, "kept"), ("main", {"sizes": sizes, "limit": 4}, "exceeded"), ("main", {"sizes": sizes, "limit": 0}, "exceeded")):
            bench.set_entry("h", House(bench.current(), task), **named)
            self.is_same(bench.state(name="h"), state)
            self.is_same(bench.lines("h") is None, state == "endless")

    def test_programs_without_frames(self):
        bench = bench_with(("main", (), ()))
        house = House(bench.current(), "main")
        for named, state in (({}, "open"), ({"limit": 0}, "kept"), ({"sizes": {}, "limit": 0}, "kept"), ({"sizes": {"a": 5, "b": None}}, "open"), ({"sizes": {"a": 0}, "limit": BIG}, "kept")):
            bench.set_entry("h", house, **named)
            self.assertEqual((bench.entry("h"), bench.state("h")), ((house, None, named.get("limit")), state))
        self.refuses(bench, InvalidSizes, {"name": None}, bench.set_entry, "h", house, sizes=5)
        self.refuses(bench, InvalidSizes, {"name": None}, bench.set_entry, "h", house, sizes=[], limit=-1)
        # With frames that come no sizes are there; with frames that go the sizes do.
        self.is_same(bench.put([("main", (), (A,))]), (("main",), ("main",), ("h",)))
        self.assertEqual((bench.entry("h")[1:], bench.state("h")), ((None, BIG), "open"))
        bench.set_entry("h", House(bench.current(), "main"), sizes={"a": 4}, limit=4)
        self.is_same(bench.put([("main", (), ())])[2], ("h",))
        self.assertEqual((bench.entry("h")[1:], bench.state("h")), ((None, 4), "kept"))
        bench.put([("main", (), (A,))])
        self.assertEqual((bench.entry("h")[1:], bench.state("h")), ((None, 4), "open"))
        bench.undo()
        bench.undo()
        self.assertEqual((bench.entry("h")[1:], bench.state("h")), (({"a": 4}, 4), "kept"))

    def test_sizes_of_frames_that_come_and_go(self):
        bench = bench_with(*ROWS)
        bench.set_entry("h", House(bench.current(), "main"), sizes={"a": 1, "b": 2})
        bench.set_entry("k", House(bench.current(), "tick"))
        self.refuses(bench, InvalidSizes, {"name": "c"}, bench.put, [("new", (), (("take", 1, "c"),))])
        self.is_same(bench.put([("tick", (), (A,))]), (("main", "tick"), ("main", "tick"), ("h", "k")))
        self.assertEqual(bench.entry("h")[1], {"a": 1})
        self.refuses(bench, InvalidSizes, {"name": "b"}, bench.put, [TICK])
        bench.undo()
        self.assertEqual(bench.entry("h")[1], {"a": 1, "b": 2})
        bench.drop_entry("h")
        self.is_same(bench.put([("new", (), (("take", 1, "c"),))])[2], ())

    def test_tasks_and_handlers_that_are_dropped(self):
        bench = bench_with(*ROWS, ("alone", (), (B,)), ("hand", (), (A,)))
        bench.set_entry("x", House(bench.current(), "alone", {"u": ("tick", 1, ()), "v": ("hand", 3, ("u",))}))
        bench.set_entry("k", House(bench.current(), "hand"), sizes={"a": 1, "b": 1})
        self.refuses(bench, InvalidHouse, {"problem": "task", "name": None}, bench.drop, ["alone"])
        self.refuses(bench, InvalidHouse, {"problem": "task", "name": None}, bench.drop, ["hand"])
        self.refuses(bench, InvalidHouse, {"problem": "task", "name": None}, bench.drop, bench.current().names())
        self.refuses(bench, InvalidHouse, {"problem": "task", "name": None}, bench.put, [("alone", ("e",), ())])
        bench.drop_entry("k")
        self.refuses(bench, InvalidHouse, {"problem": "handler", "name": "v"}, bench.drop, ["hand"])
        self.refuses(bench, InvalidHouse, {"problem": "handler", "name": "v"}, bench.put, [("hand", ("e",), ())])
        bench.drop_entry("x")
        self.is_same(bench.drop(["alone", "hand"]), ((), ("alone", "hand"), ()))

    def test_the_first_entry_in_order(self):
        bench = bench_with(*ROWS, ("alone", (), (B,)))
        bench.set_entry("b", House(bench.current(), "alone"), sizes={"a": 1, "b": 1})
        bench.set_entry("c", House(bench.current(), "tick"), sizes={"a": 1, "b": 1})
        self.refuses(bench, InvalidSizes, {"name": "d"}, bench.put, [("tick", (), (("take", 1, "d"), ("take", 1, "e"))), *NINE])
        self.refuses(bench, InvalidHouse, {"problem": "task", "name": None}, bench.put, [("alone", ("e",), (("take", 1, "d"),)), *NINE])
        bench.set_entry("a", House(bench.current(), "main"), sizes={"a": 1, "b": 1})
        self.refuses(bench, InvalidSizes, {"name": "d"}, bench.put, [("alone", ("e",), (("take", 1, "d"),)), *NINE])
        self.refuses(bench, TooMany, {"name": "nine"}, bench.put, NINE)

    def test_entries_whose_lines_change(self):
        bench = bench_with(*ROWS)
        for name, task, handlers in (("one", "main", None), ("two", "tick", None), ("six", "tick", {"u": ("main", 1, ())})):
            bench.set_entry(name, House(bench.current(), task, handlers))
        self.is_same(bench.put([("each", ("c",), (DO_C,))]), (("each", "main"), ("each", "main"), ("one", "six")))
        self.is_same(bench.put([("each", ("c",), (("loop", None, (A, DO_C)),))]), (("each", "main"), ("each", "main"), ("one", "six")))
        self.is_same((bench.lines("one"), bench.state("six")), (None, "endless"))
        self.is_same(bench.put([("each", ("c",), (("loop", None, (B, DO_C)),))]), (("each", "main"), ("each",), ()))
        self.is_same(bench.put([("tick", (), (("take", 4, "b"),))]), (("main", "tick"), ("tick",), ("two",)))
        self.is_same(bench.put([("each", ("c",), (STOP,)), ("main", (), (A,))]), (("each", "main"), ("each", "main"), ("one", "six")))
        # What a term shuts changes a form; lines of a house without handlers need not change by it.
        self.is_same(bench.put([("main", (), (("shut", ("u",)), A))]), (("main",), ("main",), ()))

    def test_wrong_entries(self):
        bench = bench_with(*ROWS)
        house = House(bench.current(), "main")
        for name in (*NO_NAMES, *odd_values()):
            self.refuses(bench, InvalidName, {"value": name}, bench.set_entry, name, None, sizes=5, limit=-1)
        for value in (*ODD_VALUES, *odd_values(), bench, Program(ROWS), House(Program(ROWS[:2] + [("each", ("c",), ())]), "main"), House(Program([*ROWS, ("more", (), ())]), "main"), House):
            self.refuses(bench, InvalidHouse, {"problem": "program", "name": None}, bench.set_entry, "h", value, sizes=5, limit=-1)
        for value in (*ODD_VALUES, *odd_values()):
            if value is not None and not isinstance(value, dict):
                self.refuses(bench, InvalidSizes, {"name": None}, bench.set_entry, "h", house, sizes=value, limit=-1)
            if not (type(value) is int and value > 0):
                self.refuses(bench, InvalidSizes, {"name": "b"}, bench.set_entry, "h", house, sizes={"a": 1, "b": value}, limit=-1)
            if value is not None and not (type(value) is int and value >= 0):
                self.refuses(bench, InvalidCount, {"value": value}, bench.set_entry, "h", house, sizes={"a": 1, "b": 1}, limit=value)
                self.refuses(bench, InvalidCount, {"value": value}, bench.set_entry, "h", house, limit=value)
        self.refuses(bench, InvalidSizes, {"name": "a"}, bench.set_entry, "h", house, sizes={}, limit=1)
        for odd in odd_keys():
            self.refuses(bench, InvalidSizes, {"name": "a"}, bench.set_entry, "h", house, sizes={odd: 1, "b": 1})
        self.assertRaises(TypeError, bench.set_entry, "h", house, {"a": 1, "b": 1})

    def test_a_house_of_the_former_program(self):
        bench = bench_with(*ROWS)
        house = House(bench.current(), "main")
        bench.put([("more", (), ())])
        self.refuses(bench, InvalidHouse, {"problem": "program", "name": None}, bench.set_entry, "h", house)
        bench.drop(["more"])
        bench.set_entry("h", house)
        bench.put([("more", (), ())])
        self.assertEqual(bench.entry("h")[0], House(bench.current(), "main"))


class Undo(BenchCase):
    def test_down_to_nothing(self):
        bench = Bench()
        states = [whole(bench)]

        def then(action, *args, **named):
            action(*args, **named)
            states.append(whole(bench))

        then(bench.put, ROWS)
        then(bench.set_entry, "h", House(bench.current(), "main", {"u": ("tick", 1, ())}), limit=5)
        then(bench.put, [("tick", (), (A, A))])
        then(bench.set_entry, "h", House(bench.current(), "tick"), sizes={"a": 1}, limit=5)
        then(bench.put, [("tick", (), (A, A))])
        then(bench.drop_entry, "h")
        then(bench.drop, ["main", "each"])
        then(bench.drop, ["tick"])
        while len(states) > 1:
            states.pop()
            self.assertIsNone(bench.undo())
            self.assertEqual(whole(bench), states[-1])
        for _ in range(2):
            self.refuses(bench, NothingToUndo, {}, bench.undo)
        bench.put(ROWS)
        bench.undo()
        self.assertEqual(whole(bench), states[0])

    def test_equality(self):
        one, other = Bench(), Bench()
        self.assertTrue(one == other and not one != other)
        one.put(ROWS)
        self.assertFalse(one == other)
        for row in reversed(ROWS[1:]):
            other.put([row])
        self.assertFalse(one == other)
        other.put([MAIN])
        self.assertTrue(one == other)
        one.set_entry("h", House(one.current(), "main"), limit=5)
        self.assertFalse(one == other)
        other.set_entry("h", House(Program(ROWS), "main"), limit=5)
        self.assertTrue(one == other)
        for named in ({}, {"limit": 6}, {"limit": 5, "sizes": {"a": 1, "b": 1}}):
            other.set_entry("h", House(Program(ROWS), "main"), **named)
            self.assertFalse(one == other)
        other.set_entry("h", House(Program(ROWS), "tick"), limit=5)
        self.assertFalse(one == other)
        other.set_entry("h", House(Program(ROWS), "main"), limit=5)
        other.set_entry("k", House(Program(ROWS), "main"), limit=5)
        self.assertFalse(one == other)
        other.drop_entry("k")
        self.assertTrue(one == other)
        for value in (*ODD_VALUES, Program(ROWS)):
            self.assertFalse(one == value)

    def test_clones_and_benches_share_nothing(self):
        bench = bench_with(*ROWS)
        bench.set_entry("h", House(bench.current(), "main"), sizes={"a": 1, "b": 1})
        twin, other = bench.clone(), Bench()
        bench.drop_entry("h")
        bench.undo()
        bench.undo()
        self.is_same((bench.names(), twin.names(), other.names()), ([], ["h"], []))
        twin.undo()
        twin.undo()
        self.assertRaises(NothingToUndo, twin.undo)
        bench.undo()

    def test_what_was_passed_and_told(self):
        bench, rows, sizes, handlers, names = Bench(), list(ROWS), {"a": 1, "b": 2}, {"u": ("tick", 1, ())}, ["each", "main"]
        bench.put(rows)
        house = House(bench.current(), "tick", handlers)
        bench.set_entry("h", house, sizes=sizes)
        before = whole(bench)
        rows.clear()
        sizes["a"] = 9
        handlers.clear()
        self.assertEqual(whole(bench), before)
        told = bench.entry("h")
        told[1].clear()
        bench.names().append("k")
        bench.current().names().clear()
        self.assertEqual(whole(bench), before)
        self.assertIsNot(bench.entry("h")[1], bench.entry("h")[1])
        bench.drop(names)
        names.append("tick")
        bench.undo()
        self.assertEqual(whole(bench), before)


class Compared(BenchCase):
    def test_some_deeds(self):
        """Behind each deed all is as it is for a program and houses that are made anew; refused deeds change nothing."""
        chance = random.Random(91)
        words = {}
        for _ in range(60):
            bench, model = Bench(), ModelBench()
            for _ in range(25):
                word, args, named = some_deed(chance, bench)
                before = whole(bench)
                action = getattr(bench, word)
                try:
                    news = action(*copy.copy(args), **named)
                except ERRORS as error:
                    self.assertEqual(whole(bench), before)
                    words[type(error).__name__] = words.get(type(error).__name__, 0) + 1
                    self.is_right_error(model, error, word, args)
                    continue
                words[word] = words.get(word, 0) + 1
                if word == "set_entry":
                    wanted = model.set_entry(*args, named.get("sizes"), named.get("limit"))
                else:
                    wanted = getattr(model, word)(*args)
                self.is_same(news, wanted, (word, args, named))
                self.compare(bench, model)
        self.assertGreater(min(words[word] for word in ("put", "drop", "set_entry", "drop_entry", "undo", "InvalidProgram", "InvalidHouse", "InvalidSizes")), 6, words)

    def is_right_error(self, model, error, word, args):
        """A deed of functions raises what a program of all that would be there raises, or what an entry does."""
        if word not in ("put", "drop"):
            return
        rows = {**model.rows, **({row[0]: row for row in args[0]} if word == "put" else {})}
        if word == "drop":
            rows = {name: row for name, row in rows.items() if name not in args[0]}
        try:
            program = Program([rows[name] for name in sorted(rows)]) if rows else None
            for name in sorted(model.entries):
                task, handlers, shut, sizes, _ = model.entries[name]
                if program is None:
                    raise InvalidHouse("task", None)
                House(program, task, handlers, shut=shut)
                lacking = [frame for frame in program.frames() if sizes is not None and frame not in sizes]
                if lacking:
                    raise InvalidSizes(lacking[0])
            forms(program)
            for name in sorted(model.entries):
                lines_of(House(program, *model.entries[name][:2], shut=model.entries[name][2]))
            self.fail(error)
        except ERRORS as wanted:
            self.assertEqual(told_error(error), told_error(wanted))

    def compare(self, bench, model):
        self.assertEqual(bench.current(), model.program())
        for name, form in model.forms().items():
            self.is_same(bench.form(name), form)
            self.assertIsInstance(bench.form(name), Form)
            self.is_same(bench.reach(name), tuple(sorted(other for other in model.rows if name in model.all_used(other))))
        self.is_same(bench.names(), sorted(model.entries))
        for name, (_, _, _, sizes, limit) in model.entries.items():
            self.assertEqual(bench.entry(name), (model.house(name), sizes, limit))
            self.is_same(bench.lines(name), model.lines(name))
            self.is_same(bench.state(name), model.state(name))
        made = Bench()
        if model.rows:
            made.put(list(model.rows.values()))
        for name, (_, _, _, sizes, limit) in model.entries.items():
            made.set_entry(name, model.house(name), sizes=sizes, limit=limit)
        self.assertTrue(made == bench)


if __name__ == "__main__":
    unittest.main()
