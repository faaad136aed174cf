import itertools
import random
import unittest

from nestdeep.errors import (
    InvalidCount, InvalidFilling, InvalidHole, InvalidHouse, InvalidProgram, InvalidSizes, NoneFits, NotClosed, TooMany,
)
from nestdeep.forming import form_of
from nestdeep.forms import Form
from nestdeep.holes import Hole, HoleHouse, filling_fault, fits, greatest_filling, joined, most_cells
from nestdeep.house import House
from nestdeep.nests import greatest_depth, is_endless, lines_of
from nestdeep.programs import Program
from tests.fillers import body_with, some_kinds, some_sets
from tests.helpers import BIG, NO_NAMES, ODD_VALUES, Case
from tests.houses import call, size
from tests.odd import odd_keys, odd_values, oddly_spoilt
from tests.test_bodies import curve

A, B, STOP, DO_C, DO_D = ("take", 1, "a"), ("take", 1, "b"), ("stop",), ("do", "c"), ("do", "d")
START, END = ((), (), "now", ()), ((), (), "end", ())
KINDS = [("k", (), "now", ()), ("l", ("u",), "c", ()), ("m", (), "now", ("c",)), ("n", ("u", "v"), "d", ("c",))]
HOLE = Hole("plug", ("d", "c"), returns=[("c", "d")], endless=(), kinds=KINDS)


def shut(*names):
    return ("shut", names)


def line(**counts):
    return tuple(sorted(counts.items()))


class Holes(Case):
    def test_what_it_tells(self):
        for hole in (HOLE, Hole("plug", ("d", "c"), returns=(("c", "d"),), kinds=tuple(KINDS)), Hole(name="plug", params=("d", "c"), returns=[("c", "d")], endless=[], kinds=KINDS)):
            self.is_same((hole.name, hole.parameters, hole.returns, hole.endless, hole.kinds), ("plug", ("d", "c"), (("c", "d"),), (), tuple(KINDS)))
            self.assertEqual(hole, HOLE)
        self.is_same(repr(HOLE), f"Hole('plug', ('d', 'c'), returns=(('c', 'd'),), endless=(), kinds={tuple(KINDS)!r})")
        self.is_same(repr(Hole("h")), "Hole('h', (), returns=(), endless=(), kinds=())")

    def test_equality(self):
        same = dict(params=("d", "c"), returns=[("c",)], endless=[("d",)], kinds=KINDS[:2])
        hole = Hole("plug", **same)
        self.assertTrue(hole == Hole("plug", **same) and not hole != Hole("plug", **same))
        for other in (Hole("glug", **same), Hole("plug", **{**same, "params": ("c", "d")}), Hole("plug", **{**same, "returns": [("d",)]}), Hole("plug", **{**same, "endless": ()}),
                      Hole("plug", **{**same, "kinds": KINDS[:1]}), Hole("plug", **{**same, "kinds": KINDS[1::-1]})):
            self.assertFalse(hole == other)
        for value in ODD_VALUES:
            self.assertFalse(hole == value)

    def test_it_keeps_what_it_was_passed(self):
        returns, endless, kinds = [("c",)], [("d",)], list(KINDS)
        hole = Hole("plug", ("c", "d"), returns=returns, endless=endless, kinds=kinds)
        for rows in (returns, endless, kinds):
            rows.clear()
        self.is_same((hole.returns, hole.endless, hole.kinds), ((("c",),), (("d",),), tuple(KINDS)))

    def wrong(self, problem, value, *args, **named):
        with self.assertRaises(InvalidHole) as caught:
            Hole(*args, **named)
        self.assertEqual(caught.exception.problem, problem)
        self.assertIs(caught.exception.value, value)

    def test_wrong_names_and_params(self):
        for value in (*NO_NAMES, *ODD_VALUES, *odd_values()):
            if value is not None and isinstance(value, str) and value in ("a",):
                continue
            self.wrong("name", value, value)
            self.wrong("name", value, value, None, returns=None, endless=None, kinds=None)
        for value in (*ODD_VALUES, *odd_values(), "c", ["c"], ("c", "c"), ("c", "d", "e"), ("c", "end"), ("c", 1), ("C",), *[("c", odd) for odd in odd_values()]):
            if not (isinstance(value, tuple) and value == ()):
                self.wrong("params", value, "h", value)
                self.wrong("params", value, "h", value, returns=None, endless=None, kinds=None)
        Hole("h", ("h",))

    def test_wrong_sets(self):
        for value in (*ODD_VALUES, *odd_values(), "c", ["c"], [["c"]], [("d", "c")], [("c", "c")], [("e",)], [("c",), ("c",)], [("d",), ("c",)], [(), ("c",)], [("c",), ("c", "d")], [("c", "d"), ("c",)],
                      [(True,)], {("c",): 1}, [("c",), None], *[[odd] for odd in odd_values()], *[[("c",), (odd,)] for odd in odd_values()]):
            if isinstance(value, (list, tuple)) and repr(list(value)) in ("[]", "[()]"):
                continue
            self.wrong("returns", value, "h", ("c", "d"), returns=value)
            self.wrong("returns", value, "h", ("c", "d"), returns=value, endless=None, kinds=None)
            self.wrong("endless", value, "h", ("c", "d"), endless=value)
            self.wrong("endless", value, "h", ("c", "d"), returns=[("c",)], endless=value, kinds=None)
        for value in ([], (), [()], ((),), [("c",)], [("c",), ("d",)], [("c", "d")]):
            self.is_same((Hole("h", ("c", "d"), returns=value).returns, Hole("h", ("c", "d"), endless=value).endless), (tuple(value), tuple(value)))

    def test_wrong_kinds(self):
        for value in (*ODD_VALUES, *odd_values(), KINDS[0], [KINDS[0], KINDS[0]], [KINDS[0], ("l", *KINDS[0][1:])], [KINDS[0], ("k", *KINDS[1][1:])], [*KINDS, ("o", (), "now", ("d",))],
                      [("k", (), "now")], [("k", (), "now", (), ())], [["k", (), "now", ()]], [("end", (), "now", ())], [("K", (), "now", ())], [("k", ("v", "u"), "now", ())], [("k", ["u"], "now", ())],
                      [("k", ("u", "u"), "now", ())], [("k", None, "now", ())], [("k", (), "end", ())], [("k", (), "e", ())], [("k", (), None, ())], [("k", (), ("c", ()), ())], [("k", (), "now", ("d", "c"))],
                      [("k", (), "now", ("e",))], [("k", (), "now", ["c"])], [("k", (), "now", None)], {"k": KINDS[0]}):
            if isinstance(value, (list, tuple)) and not len(value):
                continue
            self.wrong("kinds", value, "h", ("c", "d"), kinds=value)
        for kinds in [*oddly_spoilt(KINDS[3])]:
            value = [KINDS[0], kinds]
            self.wrong("kinds", value, "h", ("c", "d"), kinds=value)
        self.is_same(Hole("h", ("c", "d"), kinds=tuple(KINDS)).kinds, tuple(KINDS))
        self.is_same(Hole("k", (), kinds=[("k", (), "now", ())]).kinds, (("k", (), "now", ()),))


class Fillings(Case):
    def test_forms(self):
        k, l, m, n = (((name, 1),) for name in "klmn")
        hole = Hole("plug", ("d", "c"), returns=[("c",)], kinds=KINDS)
        end = ((), (), "end", ("c",))
        self.gives(Form(("c", "d"), (), tuple(sorted([(k, (), "now", ()), (l, ("u",), "now", ())])) + (end, (l, ("u",), "c", ()))), hole.form_of, {"k": 3, "l": 1})
        self.gives(Form(("c", "d"), (), (((), (), "now", ()), end, ((), ("u",), "c", ()))), hole.form_of, {"l": 0})
        self.gives(Form(("c", "d"), (), (((), (), "now", ()), (l, ("u",), "now", ()), (m, (), "now", ("c",)), (n, ("u", "v"), "now", ("c",)), end, (l, ("u",), "c", ()), (n, ("u", "v"), "d", ("c",)))),
                   hole.form_of, {"l": 1, "m": BIG, "n": 2})
        self.gives(hole.form_of({"l": 1, "k": 1}), hole.form_of, filling={"k": 7, "l": BIG})
        self.assertNotEqual(hole.form_of({"l": 1, "k": 1}), hole.form_of({"l": 0, "k": 1}))
        self.assertNotEqual(hole.form_of({"l": 1, "k": 0}), hole.form_of({"l": 1, "k": 1}))
        self.assertEqual(hole.form_of({"l": 1, "k": 0}), hole.form_of({"l": 1}))

    def test_endless_sets(self):
        hole = Hole("plug", ("c", "d"), returns=[("d",)], endless=[("c",)], kinds=[*KINDS[1:], ("o", (), "d", ())])
        self.gives(Form(("c", "d"), (("c",),), (((), (), "now", ()), ((), (), "end", ("d",)), ((), ("u",), "c", ()), ((), (), "d", ()))), hole.form_of, {"l": 0, "o": 0, "n": 5, "m": 5})
        self.gives(Form((), ((),), ()), Hole("h", endless=[()], returns=[()], kinds=[("k", (), "now", ())]).form_of, {"k": 1})

    def not_closed(self, returned, hole, filling):
        self.fails(NotClosed, {"returned": returned}, hole.form_of, filling)

    def test_fillings_that_are_not_closed(self):
        self.not_closed(("c", "d"), HOLE, {})
        self.not_closed(("c", "d"), HOLE, {"l": 1})
        self.not_closed(("c",), HOLE, {"n": 1, "k": 0})
        self.not_closed(("c",), Hole("h", ("c",), endless=[("c",)], returns=[("c",)]), {})
        self.not_closed(("c",), Hole("h", ("c",), kinds=[("m", (), "now", ("c",)), ("l", (), "c", ())]), {"m": 0 + 1})
        self.not_closed(("c",), Hole("h", ("c",), kinds=[("m", (), "c", ("c",))]), {"m": 1})
        self.not_closed(("c",), Hole("h", ("c", "d"), kinds=[("m", (), "c", ("d",)), ("l", (), "d", ("c",))]), {"m": 1, "l": 1})
        self.is_same(len(HOLE.form_of({"l": 1, "n": 0})), 5)
        # A term with a returned set that is covered by others asks for nothing.
        hole = Hole("h", ("c",), kinds=[("m", (), "now", ("c",))])
        self.gives(Form(("c",), (), (START,)), hole.form_of, {"m": 0})

    def test_values_that_are_no_fillings(self):
        for value in (*ODD_VALUES, *odd_values(), {"k": -1}, {"k": True}, {"k": None}, {"k": "1"}, {"z": 1}, {"plug": 1}, {"k": 1, "z": 1}, {1: 1}, {("k",): 1}, {None: 0}, [("k", 1)], (("k", 1),),
                      *[{odd: 1} for odd in odd_keys()], *[{"k": 1, odd: 1} for odd in odd_keys()], *[{"k": odd} for odd in odd_values()]):
            if isinstance(value, dict) and not len(value):
                continue
            with self.assertRaises(InvalidFilling) as caught:
                HOLE.form_of(value)
            self.assertIs(caught.exception.value, value)

    def test_functions_that_have_the_forms(self):
        """A function with the form of a filling is one that can be written; the tests fill holes with it."""
        chance = random.Random(82)
        found = 0
        for _ in range(400):
            params = chance.choice([(), ("c",), ("d", "c")])
            hole = Hole("plug", params, returns=some_sets(chance, params), endless=some_sets(chance, params), kinds=some_kinds(chance, params))
            filling = {kind[0]: chance.choice([0, 1, 7]) for kind in hole.kinds if chance.random() < .8}
            try:
                form = hole.form_of(filling)
            except NotClosed:
                continue
            if () in form.endless or not form.endless:
                found += 1
                self.assertEqual(form_of(Program([("plug", params, body_with(form))]), "plug"), form, (hole, filling))
        self.assertGreater(found, 100)


def some_hole_house(chance, loops=(1, 2)):
    """A hole, and what makes it a hole house; each other function may call it."""
    params = chance.choice([(), (), ("c",), ("d", "c")])
    hole = Hole("plug", params, returns=some_sets(chance, params), endless=some_sets(chance, params) if chance.random() < .3 else (), kinds=some_kinds(chance, params))
    plain = ["f", "g", "h"]
    rows = []
    for at, name in enumerate(plain):
        body = []
        for _ in range(chance.randint(0, 4)):
            others = plain[:at] if chance.random() < .9 else plain
            word = chance.choice(["take", "take", "shut", "plug", "call", "room", "either"])
            inner = chance.choice([A, B, shut("u")])
            if word == "plug" and (others or not params):
                inner = call("plug", *(chance.choice(others) for _ in params))
            if word == "call" and others:
                inner = call(chance.choice(others))
            body.append(("room", (inner, A)) if word == "room" else ("either", (inner,), chance.choice([(), (B,)])) if word == "either" else inner)
        rows.append((name, (), tuple(body)))
    interrupts = "uv"[:chance.randint(0, 2)]
    able = [*plain, *([] if params else ["plug"])]
    handlers = {name: (chance.choice(able), chance.choice([1, 2, 5]), tuple(sorted(one for one in interrupts if chance.random() < .2))) for name in interrupts}
    return rows, hole, chance.choice(able + ["h", "h"]), handlers


def some_shared_hole(chance):
    """A hole that is called by the task and by handlers, and what makes it a hole house."""
    hole = Hole("plug", returns=[()], kinds=some_kinds(chance, (), "uv", 4))
    rows = [("main", (), (chance.choice([A, ("room", (A,))]), call("plug"))), ("hu", (), (call("plug"), chance.choice([A, B]))), ("hv", (), (B, call("plug")))]
    handlers = {name: (f"h{name}", chance.choice([1, 2]), tuple(one for one in "uv" if chance.random() < .2)) for name in "uv"}
    return rows, hole, "main", {name: handler for name, handler in handlers.items() if set(handler[2]) <= set(handlers)}


class Houses(Case):
    def test_attributes(self):
        rows = [("main", (), (call("plug", "t", "t"),)), ("t", (), (A,))]
        plugged = HoleHouse(rows, HOLE, "main", {"u": ("t", 2, ())}, shut=("u",))
        self.assertIs(plugged.hole, HOLE)
        self.assertEqual(plugged.house, House(Program([*rows, ("plug", ("d", "c"), ())]), "main", {"u": ("t", 2, ())}, shut=("u",)))
        again = HoleHouse(functions=tuple(rows), hole=HOLE, task="main", handlers={"u": ("t", 2, ())}, shut=("u",))
        self.assertEqual(again.house, plugged.house)
        self.assertEqual(HoleHouse([], Hole("h"), "h").house, House(Program([("h", (), ())]), "h"))

    def test_it_keeps_what_it_was_passed(self):
        rows, handlers = [("main", (), (A, call("plug"))), ("t", (), (B,))], {"u": ("t", 2, ())}
        plugged = HoleHouse(rows, Hole("plug", returns=[()]), "main", handlers)
        rows.clear()
        handlers.clear()
        self.gives((line(a=1, b=2),), plugged.lines, {})

    def test_errors(self):
        rows = [("main", (), (call("plug", "t", "t"),)), ("t", (), (A,))]
        for value in (*ODD_VALUES, *odd_values(), {"main": 1}, "main", Program([("t", (), ())])):
            if not isinstance(value, (list, tuple)):
                self.raises(InvalidProgram, {"problem": "functions", "name": ""}, value, HOLE, None, None, shut=None)
        for value in ODD_VALUES:
            if isinstance(value, (list, tuple)) and value:
                self.raises(InvalidProgram, {"problem": "function", "name": "0"}, value, HOLE, None)
        self.raises(InvalidProgram, {"problem": "functions", "name": ""}, [("f" + letter, (), ()) for letter in "abcdefghijklmnopqrstuvwx"], HOLE, "fa")
        self.raises(InvalidProgram, {"problem": "repeated", "name": "plug"}, [*rows, ("plug", (), ())], HOLE, "main")
        self.raises(InvalidProgram, {"problem": "parameter", "name": "plug"}, [*rows, ("c", (), ())], HOLE, "main")
        self.raises(InvalidProgram, {"problem": "args", "name": "main"}, [("main", (), (call("plug", "t"),)), rows[1]], HOLE, "main")
        self.raises(InvalidProgram, {"problem": "call", "name": "main"}, rows, Hole("glug", ("c", "d")), "main")
        self.raises(InvalidHole, {"problem": "kinds", "value": KINDS[1]}, [rows[0], ("t", (), (A, ("take", 1, "l"), ("take", 2, "m")))], HOLE, None)
        self.raises(InvalidHole, {"problem": "kinds", "value": KINDS[0]}, [rows[0], ("t", (), (("take", 1, "l"), ("take", 2, "k")))], HOLE, "plug", {1: 1}, shut=None)
        for task in ("plug", "none", None, *odd_values()):
            self.raises(InvalidHouse, {"problem": "task", "name": None}, rows, HOLE, task)
        self.raises(InvalidHouse, {"problem": "handlers", "name": None}, rows, HOLE, "main", [])
        self.raises(InvalidHouse, {"problem": "interrupt", "name": None}, rows, HOLE, "main", {1: ("t", 1, ())})
        self.raises(InvalidHouse, {"problem": "handler", "name": "u"}, rows, HOLE, "main", {"u": ("plug", 1, ())})
        self.raises(InvalidHouse, {"problem": "shut", "name": None}, rows, HOLE, "main", {"u": ("t", 1, ())}, shut=("v",))

    def raises(self, error, fields, *args, **named):
        with self.assertRaises(error) as caught:
            HoleHouse(*args, **named)
        self.assertIs(type(caught.exception), error)
        for name, value in fields.items():
            self.is_same(getattr(caught.exception, name), value)

    def test_lines(self):
        rows = [("main", (), (("take", 3, "p"), call("plug", "back"))), ("back", (), (("take", 5, "p"),)), ("tick", (), (("take", 6, "p"),))]
        hole = Hole("plug", ("c",), returns=[("c",)], kinds=[("k", (), "now", ()), ("m", ("u",), "c", ())])
        plugged = HoleHouse(rows, hole, "main", {"u": ("tick", 1, ())})
        self.gives(tuple(sorted([line(k=1, p=9), line(m=1, p=8)])), plugged.lines, {"k": 4, "m": 1})
        self.gives((line(p=9),), plugged.lines, {"m": 0})
        self.gives(tuple(sorted([line(p=9), line(m=1, p=8)])), plugged.lines, filling={"m": 2})
        self.fails(NotClosed, {"returned": ("c",)}, plugged.lines, {"k": 1})
        for value in (*ODD_VALUES, *odd_values(), {"z": 1}, {"k": True}):
            if not (isinstance(value, dict) and not value):
                with self.assertRaises(InvalidFilling) as caught:
                    plugged.lines(value)
                self.assertIs(caught.exception.value, value)

    def test_the_hole_as_task_and_handler(self):
        hole = Hole("plug", (), kinds=[("k", ("u",), "now", ()), ("l", (), "now", ())])
        for handlers, lines in ((None, [line(k=1), line(l=1)]), ({"u": ("plug", 2, ())}, [line(k=1, l=2), line(l=3)]), ({"u": ("plug", 2, ("u",))}, [line(k=1, l=1), line(l=2)])):
            plugged = HoleHouse([], hole, "plug", handlers)
            self.gives(tuple(sorted(lines)), plugged.lines, {"k": 1, "l": 1})
        self.gives(None, HoleHouse([], Hole("plug", endless=[()]), "plug").lines, {})
        self.gives(None, HoleHouse([("main", (), ())], Hole("plug", endless=[()]), "main", {"u": ("plug", 1, ())}).lines, {})
        self.gives(((),), HoleHouse([("main", (), ())], Hole("plug", endless=[()]), "main", {"u": ("plug", 1, ())}, shut=("u",)).lines, {})

    def test_rings_through_the_hole(self):
        rows = [("main", (), (call("plug", "main"),))]
        hole = Hole("plug", ("c",), kinds=[("k", (), "c", ()), ("l", (), "now", ())])
        plugged = HoleHouse(rows, hole, "main")
        self.gives(((),), plugged.lines, {"k": 0})
        self.gives((line(l=1),), plugged.lines, {"k": 0, "l": 5})
        self.gives(None, plugged.lines, {"k": 1})
        self.gives(((),), plugged.lines, {})
        self.is_same(filling_fault(plugged, {}, BIG, {"k": 1}), ("endless", None))
        self.is_same(most_cells(plugged, {}, 9), {"k": 0, "l": 9})
        self.is_same(greatest_filling(plugged, {}, 9), (True, {"k": 0, "l": 9}))

    def test_too_many(self):
        nine = tuple(call(letter) for letter in "efghijrst")
        plain = [(letter, (), ()) for letter in "efghijrst"]
        plugged = HoleHouse([("main", (), (call("plug", "nine"),)), ("nine", (), nine), *plain], Hole("plug", ("c",), kinds=[("k", (), "c", ())]), "main")
        for action in (plugged.lines, lambda filling: fits(plugged, {}, 5, filling), lambda filling: filling_fault(plugged, {}, 5, filling), lambda filling: most_cells(plugged, {}, 5),
                       lambda filling: greatest_filling(plugged, {}, 5)):
            self.fails(TooMany, {"name": "nine"}, action, {"k": 0})
        wide = HoleHouse([("main", (), (call("plug"), *curve(15))), ("hu", (), curve(15, "wx")), ("hv", (), curve(15, "yz"))], Hole("plug", returns=[()]), "main", {"u": ("hu", 1, ()), "v": ("hv", 1, ())})
        for _ in range(2):
            self.fails(TooMany, {"name": None}, wide.lines, {})
        sizes = {frame: 1 for frame in "abwxyz"}
        for action in (lambda: fits(wide, sizes, 5, {}), lambda: filling_fault(wide, sizes, 5, {}), lambda: greatest_filling(wide, sizes, 5)):
            self.fails(TooMany, {"name": None}, action)

    def test_a_function_in_the_place_of_the_hole(self):
        """With a filling the lines are those with a function that has the form of the filling."""
        chance = random.Random(83)
        counts = {}
        for _ in range(700):
            rows, hole, task, handlers = some_hole_house(chance)
            plugged = HoleHouse(rows, hole, task, handlers)
            filling = {kind[0]: chance.choice([0, 1, 7]) for kind in hole.kinds if chance.random() < .8}
            try:
                form = hole.form_of(filling)
            except NotClosed as error:
                self.is_same(filling_fault(plugged, {"a": 1, "b": 1}, 9, filling), ("closed", error.returned))
                counts["closed"] = counts.get("closed", 0) + 1
                continue
            program = Program([*rows, ("plug", hole.parameters, body_with(form))])
            if form.endless and form_of(program, "plug") != form:
                continue
            self.assertEqual(form_of(program, "plug"), form)
            house = House(program, task, handlers)
            wanted = None if is_endless(house) else lines_of(house)
            self.gives(wanted, plugged.lines, filling)
            counts[wanted is None] = counts.get(wanted is None, 0) + 1
            sizes = {frame: chance.randint(1, 5) for frame in plugged.house.program.frames()}
            if wanted is None:
                self.is_same(filling_fault(plugged, sizes, BIG, filling), ("endless", None))
                continue
            cells = {name: many for name, many in filling.items() if many}
            depth, deepest = greatest_depth(house, {**sizes, **cells, "z": 1})
            for limit in {max(0, depth - 1), depth, depth + 1, 0}:
                self.is_same(fits(plugged, sizes, limit, filling), depth <= limit)
                self.is_same(filling_fault(plugged, sizes, limit, filling), None if depth <= limit else ("depth", deepest))
        self.assertGreater(min(counts[word] for word in ("closed", True, False)), 25, counts)


CALL = ("room", (("take", 3, "p"), call("plug", "back")))
EXAMPLE = HoleHouse([("main", (), (CALL,)), ("back", (), (("take", 5, "p"),)), ("tick", (), (("take", 6, "p"),))],
                    Hole("plug", ("c",), returns=[("c",)], kinds=[("k", (), "now", ()), ("m", (), "c", ())]), "main", {"u": ("tick", 1, ())})
# The task calls the hole, and so does the handler of h.
CASE = HoleHouse([("main", (), (call("plug"),)), ("hand", (), (call("plug"),))],
                 Hole("plug", kinds=[("k", ("h",), "now", ()), ("l", (), "now", ())]), "main", {"h": ("hand", 1, ())})


class Greatest(Case):
    def test_examples(self):
        self.assertEqual([greatest_filling(EXAMPLE, {"p": 1}, 20), greatest_filling(EXAMPLE, {"p": 2}, 30)], [(True, {"k": 11, "m": 6}), (True, {"k": 12, "m": 2})])
        self.assertEqual(most_cells(EXAMPLE, {"p": 1}, 20), {"k": 11, "m": 6})
        self.is_same(fits(EXAMPLE, {"p": 1}, 20, {"k": 11, "m": 6}), True)
        for filling in ({"k": 12, "m": 6}, {"k": 11, "m": 7}):
            self.is_same(fits(EXAMPLE, {"p": 1}, 20, filling), False)

    def test_the_case_of_two(self):
        self.assertEqual(most_cells(CASE, {}, 10), {"k": 10, "l": 5})
        holds, pair = greatest_filling(CASE, {}, 10)
        self.is_same(holds, False)
        self.assertEqual((type(pair), len(pair)), (tuple, 2))
        for filling in pair:
            self.is_same(fits(CASE, {}, 10, filling), True)
        self.is_same(fits(CASE, {}, 10, joined(*pair)), False)
        self.is_same(filling_fault(CASE, {}, 10, {"k": 10, "l": 5}), ("depth", line(k=1, l=1)))
        self.is_same(filling_fault(CASE, {}, 10, {"k": 4, "l": 6}), ("depth", line(l=2)))
        self.is_same(filling_fault(CASE, {}, 10, {"k": 6, "l": 6}), ("depth", line(k=1, l=1)))
        self.is_same(filling_fault(CASE, {}, 10, {"k": 5, "l": 5}), None)
        self.assertEqual(greatest_filling(CASE, {}, 0), (True, {"k": 0, "l": 0}))

    def test_no_filling_fits(self):
        for sizes, limit in (({"p": 1}, 13), ({"p": 2}, 27), ({"p": BIG}, BIG)):
            self.is_same(most_cells(EXAMPLE, sizes, limit), {})
            self.fails(NoneFits, {}, greatest_filling, EXAMPLE, sizes, limit)
        self.assertEqual(greatest_filling(EXAMPLE, {"p": 1}, 14), (True, {"k": 5, "m": 0}))
        never = HoleHouse([("main", (), (call("plug"),))], Hole("plug", endless=[()], kinds=[("k", (), "now", ())]), "main")
        self.is_same(most_cells(never, {}, BIG), {})
        self.fails(NoneFits, {}, greatest_filling, never, {}, BIG)
        unclosed = HoleHouse([("main", (), (A,)), ("t", (), ())], Hole("plug", ("c",), returns=[("c",)], kinds=[("k", (), "now", ())]), "main")
        self.is_same(most_cells(unclosed, {"a": 1}, BIG), {})
        self.fails(NoneFits, {}, greatest_filling, unclosed, {"a": 1}, BIG)

    def test_no_kinds(self):
        plugged = HoleHouse([("main", (), (A, call("plug"), B))], Hole("plug", returns=[()]), "main")
        for limit, holds in ((1, False), (2, True), (BIG, True)):
            self.is_same(fits(plugged, {"a": 1, "b": 1}, limit, {}), holds)
            self.is_same(most_cells(plugged, {"a": 1, "b": 1}, limit), {})
        self.is_same(greatest_filling(plugged, {"a": 1, "b": 1}, 2), (True, {}))
        self.fails(NoneFits, {}, greatest_filling, plugged, {"a": 1, "b": 1}, 1)

    def test_kinds_without_a_most(self):
        # Nothing calls the hole at a place that is kept; or it can never come.
        unused = HoleHouse([("main", (), (A,))], Hole("plug", kinds=[("k", (), "now", ()), ("l", ("u",), "now", ())]), "main")
        self.assertEqual((most_cells(unused, {"a": 1}, 1), greatest_filling(unused, {"a": 1}, 1)), ({"k": None, "l": None}, (True, {"k": None, "l": None})))
        self.fails(NoneFits, {}, greatest_filling, unused, {"a": 1}, 0)
        stuck = HoleHouse([("main", (), (call("plug", "t"),)), ("t", (), (STOP,))], Hole("plug", ("c",), kinds=[("k", (), "now", ("c",)), ("l", (), "c", ())]), "main")
        self.assertEqual(most_cells(stuck, {}, 5), {"k": None, "l": 5})
        self.assertEqual(greatest_filling(stuck, {}, 5), (True, {"k": None, "l": 5}))
        self.is_same(fits(stuck, {}, 5, {"k": BIG, "l": 5}), True)
        self.is_same(fits(stuck, {}, 5, {"k": 0, "l": 6}), False)

    def test_no_most_of_two_together(self):
        # Either kind alone has no greatest number: what must have returned for it does not return without the other one.
        rows = [("main", (), (call("plug", "t", "t"),)), ("t", (), ())]
        hole = Hole("plug", ("c", "d"), endless=[("c", "d")], kinds=[("k", (), "c", ()), ("l", (), "d", ())])
        plugged = HoleHouse(rows, hole, "main")
        self.is_same(most_cells(plugged, {}, 7), {})
        hole = Hole("plug", ("c",), kinds=[("k", (), "c", ()), ("l", (), "now", ("c",))])
        for t, most in (((), {"k": 7, "l": 7}), ((STOP,), {"k": 7, "l": None})):
            self.assertEqual(most_cells(HoleHouse([("main", (), (call("plug", "t"),)), ("t", (), t)], hole, "main"), {}, 7), most)

    def test_kinds_that_are_forced_to_be_present(self):
        # The hole returns only if c is called; of two kinds that call it one is enough.
        hole = Hole("plug", ("c",), returns=[("c",)], kinds=[("k", (), "c", ()), ("l", ("u",), "c", ()), ("m", (), "now", ())])
        rows = [("main", (), (A, call("plug", "t"))), ("t", (), (("take", 3, "a"),)), ("hu", (), (("take", 4, "a"),))]
        plugged = HoleHouse(rows, hole, "main", {"u": ("hu", 1, ())})
        for filling, fault in (({}, ("closed", ("c",))), ({"m": 5}, ("closed", ("c",))), ({"k": 2}, None), ({"k": 3}, ("depth", line(a=8, k=1))), ({"l": 6}, None), ({"l": 7}, ("depth", line(a=4, l=1))),
                               ({"l": 0, "m": 5}, None), ({"l": 0, "m": 6}, ("depth", line(a=5, m=1))), ({"k": 0, "m": 5}, None)):
            self.is_same(filling_fault(plugged, {"a": 1}, 10, filling), fault)
            self.is_same(fits(plugged, {"a": 1}, 10, filling), fault is None)
        self.assertEqual(most_cells(plugged, {"a": 1}, 10), {"k": 2, "l": 6, "m": 5})
        self.assertEqual(greatest_filling(plugged, {"a": 1}, 10), (True, {"k": 2, "l": 6, "m": 5}))
        self.assertEqual(most_cells(plugged, {"a": 1}, 7), {"l": 3, "m": 2})
        self.assertEqual(greatest_filling(plugged, {"a": 1}, 7), (True, {"l": 3, "m": 2}))
        self.fails(NoneFits, {}, greatest_filling, plugged, {"a": 1}, 4)

    def test_errors(self):
        for action in (lambda *args: fits(EXAMPLE, *args, None), lambda *args: filling_fault(EXAMPLE, *args, None), lambda *args: most_cells(EXAMPLE, *args), lambda *args: greatest_filling(EXAMPLE, *args)):
            for value in (*ODD_VALUES, *odd_values()):
                if not isinstance(value, dict):
                    self.raises(InvalidSizes, "name", None, action, value, None)
                if not (type(value) is int and value > 0):
                    self.raises(InvalidSizes, "name", "p", action, {"p": value, "k": 1}, None)
                if not (type(value) is int and value >= 0):
                    self.raises(InvalidCount, "value", value, action, {"p": 1}, value)
            self.raises(InvalidSizes, "name", "p", action, {"k": 1, "m": 1}, 5)
        for value in (*ODD_VALUES, *odd_values(), {"p": 1}, {"k": True}, {"k": -1}, {"m": 1, "z": 0}):
            if not (isinstance(value, dict) and not value):
                for action in (fits, filling_fault):
                    self.raises(InvalidFilling, "value", value, action, EXAMPLE, {"p": 1}, 20, value)

    def raises(self, error, field, value, action, *args):
        with self.assertRaises(error) as caught:
            action(*args)
        self.assertIs(getattr(caught.exception, field), value)

    def test_sizes_of_kinds(self):
        # A frame that has the name of a kind has its cells as size, whatever the sizes tell.
        for sizes in ({"p": 1}, {"p": 1, "k": 99, "m": 99}, {"p": 1, "k": None}):
            self.is_same(fits(EXAMPLE, sizes, 20, {"k": 11, "m": 6}), True)
            self.is_same(filling_fault(EXAMPLE, sizes, 20, {"k": 12, "m": 6}), ("depth", line(k=1, p=9)))

    def test_names_of_arguments(self):
        told = dict(hole_house=EXAMPLE, sizes={"p": 1}, limit=20)
        self.assertEqual((fits(**told, filling={"m": 6}), filling_fault(**told, filling={"m": 6})), (True, None))
        self.assertEqual((most_cells(**told), greatest_filling(**told)), ({"k": 11, "m": 6}, (True, {"k": 11, "m": 6})))

    def test_joined(self):
        self.assertEqual(joined(), {})
        first = {"k": 3}
        self.assertEqual(joined(first), {"k": 3})
        self.assertIsNot(joined(first), first)
        self.assertEqual(joined({"k": 3, "l": 0}, {"l": 5}, {"k": 2, "m": 0}), {"k": 3, "l": 5, "m": 0})
        self.assertEqual(first, {"k": 3})

    def test_results_are_new(self):
        one, other = greatest_filling(CASE, {}, 10), greatest_filling(CASE, {}, 10)
        self.assertEqual(one, other)
        self.assertIsNot(one[1][0], one[1][1])
        one[1][0].clear()
        one[1][1].clear()
        self.assertEqual(greatest_filling(CASE, {}, 10), other)
        most_cells(CASE, {}, 10).clear()
        self.assertEqual(most_cells(CASE, {}, 10), {"k": 10, "l": 5})

    def test_all_fillings(self):
        """Compared with all fillings of not too many cells."""
        chance = random.Random(84)
        counts = {}
        for turn in range(400):
            rows, hole, task, handlers = some_hole_house(chance) if turn < 300 else some_shared_hole(chance)
            plugged = HoleHouse(rows, hole, task, handlers)
            sizes = {frame: chance.randint(1, 2) for frame in plugged.house.program.frames()}
            limit = chance.randint(0, 6) if turn < 300 else chance.randint(5, 12)
            if len(hole.kinds) == 4 and limit > 7:
                limit = 7
            names = [kind[0] for kind in hole.kinds]
            # With more cells than the limit a line that has the kind is too deep, so limit + 1 stands for all of them.
            known = self.known(plugged, sizes, limit, names)
            best = {name: max((filling[name] for filling in known if name in filling), default=None) for name in names}
            most = {name: None if many > limit else many for name, many in best.items() if many is not None}
            self.assertEqual(most_cells(plugged, sizes, limit), most, (rows, hole, task, handlers, sizes, limit))
            top = {name: best[name] for name in most}
            if not known:
                self.fails(NoneFits, {}, greatest_filling, plugged, sizes, limit)
                counts["none"] = counts.get("none", 0) + 1
                continue
            holds, found = greatest_filling(plugged, sizes, limit)
            self.assertEqual(holds, top in known)
            counts[holds] = counts.get(holds, 0) + 1
            if holds:
                self.assertEqual(found, most)
                self.assertTrue(all(joined(top, filling) == top for filling in known))
            else:
                self.assertTrue(fits(plugged, sizes, limit, found[0]) and fits(plugged, sizes, limit, found[1]))
                self.assertFalse(fits(plugged, sizes, limit, joined(*found)))
        self.assertGreater(min(counts[word] for word in ("none", True, False)), 15, counts)
        self.assertGreater(counts[True], 100)

    def known(self, plugged, sizes, limit, names):
        """All fillings that fit, with at most limit + 1 cells, by the lines alone."""
        found = []
        for cells in itertools.product([None, *range(limit + 2)], repeat=len(names)):
            filling = {name: many for name, many in zip(names, cells) if many is not None}
            try:
                lines = plugged.lines(filling)
            except NotClosed:
                continue
            if lines is not None and max(size(one, {**sizes, **filling}) for one in lines) <= limit:
                found.append(filling)
        return found


if __name__ == "__main__":
    unittest.main()
