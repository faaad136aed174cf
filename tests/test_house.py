from nestdeep.errors import InvalidHouse, UnknownInterrupt
from nestdeep.house import House
from nestdeep.programs import Program
from tests.helpers import BIG, Case, NO_NAMES, ODD_VALUES

PROGRAM = Program([
    ("main", (), (("take", 1, "p"), ("shut", ("z",)))), ("tick", (), (("take", 2, "q"),)), ("tock", (), ()),
    ("with", ("c",), (("do", "c"),)),
])
HANDLERS = {"v": ("tock", 10 ** 12, ("u", "v")), "u": ("tick", 1, ())}


class Good(Case):
    def setUp(self):
        self.house = House(PROGRAM, "main", HANDLERS, shut=("u",))

    def test_attributes(self):
        self.assertTrue(self.house.program == PROGRAM)
        self.is_same((self.house.task, self.house.shut), ("main", ("u",)))

    def test_handlers(self):
        self.assertEqual(self.house.handlers(), HANDLERS)
        self.assertIs(type(self.house.handlers()), dict)
        self.gives(("tick", 1, ()), self.house.handler, "u")
        self.gives(("tock", 10 ** 12, ("u", "v")), self.house.handler, "v")
        self.is_same(self.house.handler(interrupt="u"), ("tick", 1, ()))

    def test_unknown_interrupts(self):
        for value in [*NO_NAMES, *ODD_VALUES, "z", "w", "main", "uu", ("u",), ["u"], b"u"]:
            self.fails(UnknownInterrupt, {"name": value}, self.house.handler, value)

    def test_without_handlers(self):
        for house in (House(PROGRAM, "main"), House(PROGRAM, "main", None), House(PROGRAM, "main", {}),
                      House(program=PROGRAM, task="main", handlers=None, shut=())):
            self.is_same((house.handlers(), house.shut, len(house), list(house)), ({}, (), 0, []))
            self.assertTrue(house == House(PROGRAM, "main"))
            self.fails(UnknownInterrupt, {"name": "u"}, house.handler, "u")
            self.assertEqual(repr(house), "House('main', [])")

    def test_len_contains_and_iteration(self):
        self.assertEqual(len(self.house), 2)
        self.is_same(list(self.house), ["u", "v"])
        self.is_same([interrupt for interrupt in self.house], ["u", "v"])
        for interrupt in ("u", "v"):
            self.assertIs(interrupt in self.house, True)
        for value in [*NO_NAMES, *ODD_VALUES, "z", "main", ("u",), ["u"], b"u"]:
            self.assertIs(value in self.house, False)

    def test_repr(self):
        self.assertEqual(repr(self.house), "House('main', ['u', 'v'])")
        self.assertEqual(repr(House(PROGRAM, "tock", {"b": ("tick", 1, ())})), "House('tock', ['b'])")

    def test_five_handlers_sorted(self):
        handlers = {name: ("tick", 3, ("a", "e")) for name in "ecabd"}
        house = House(PROGRAM, "tick", handlers, shut=tuple("abcde"))
        self.is_same((list(house), len(house)), ([*"abcde"], 5))
        self.assertEqual(house.handlers(), handlers)

    def test_equality(self):
        same = [House(PROGRAM, "main", dict(reversed(HANDLERS.items())), shut=("u",)),
                House(Program(PROGRAM.functions()[::-1]), "main", HANDLERS, shut=("u",))]
        for other in same:
            self.assertTrue(self.house == other)
            self.assertFalse(self.house != other)
        others = [
            House(PROGRAM, "tick", HANDLERS, shut=("u",)), House(PROGRAM, "main", HANDLERS),
            House(PROGRAM, "main", HANDLERS, shut=("u", "v")),
            House(PROGRAM, "main", {**HANDLERS, "u": ("tick", 2, ())}, shut=("u",)),
            House(PROGRAM, "main", {**HANDLERS, "u": ("tock", 1, ())}, shut=("u",)),
            House(PROGRAM, "main", {**HANDLERS, "u": ("tick", 1, ("u",))}, shut=("u",)),
            House(PROGRAM, "main", {"u": ("tick", 1, ())}, shut=("u",)),
            House(PROGRAM, "main", {**HANDLERS, "w": ("tick", 1, ())}, shut=("u",)),
            House(Program([*PROGRAM.functions(), ("more", (), ())]), "main", HANDLERS, shut=("u",)),
        ]
        for other in [*others, None, 1, "main", HANDLERS, PROGRAM, repr(self.house), object()]:
            self.assertFalse(self.house == other)
            self.assertTrue(self.house != other)

    def test_copies(self):
        handlers = dict(HANDLERS)
        house = House(PROGRAM, "main", handlers)
        handlers["u"] = ("tock", 5, ())
        handlers["w"] = None
        self.assertEqual(house.handlers(), HANDLERS)
        house.handlers().clear()
        house.handlers()["u"] = 5
        self.assertEqual(house.handlers(), HANDLERS)
        self.assertIsNot(house.handlers(), house.handlers())
        self.is_same(list(house), ["u", "v"])

    def test_by_name_only(self):
        with self.assertRaises(TypeError):
            House(PROGRAM, "main", HANDLERS, ("u",))
        with self.assertRaises(TypeError):
            self.house.with_shut(["u"], "v")

    def test_times(self):
        for times in (1, 2, 10 ** 12):
            self.is_same(House(PROGRAM, "main", {"u": ("tick", times, ())}).handler("u"), ("tick", times, ()))


class Refused(Case):
    def refused(self, problem, name, *args, **named):
        self.fails(InvalidHouse, {"problem": problem, "name": name}, House, *args, **named)

    def test_task(self):
        for task in [*NO_NAMES, *ODD_VALUES, "with", "nope", "c", "p", ("main",), ["main"]]:
            self.refused("task", None, PROGRAM, task)
            self.refused("task", None, PROGRAM, task, 5, shut=5)

    def test_handlers(self):
        wrong = [value for value in ODD_VALUES if value is not None and not isinstance(value, dict)]
        for handlers in [*wrong, [("u", ("tick", 1, ()))], (("u", ("tick", 1, ())),)]:
            self.refused("handlers", None, PROGRAM, "main", handlers)
            self.refused("handlers", None, PROGRAM, "main", handlers, shut=5)
        self.refused("handlers", None, PROGRAM, "main", {name: ("tick", 1, ()) for name in "abcdef"})
        self.refused("handlers", None, PROGRAM, "main", {name: None for name in (1, 2, 3, 4, 5, 6)})

    def test_interrupts(self):
        for name in NO_NAMES:
            if isinstance(name, (dict, list, set)):
                continue
            self.refused("interrupt", None, PROGRAM, "main", {name: ("tick", 1, ())})
            self.refused("interrupt", None, PROGRAM, "main", {"a": None, name: ("tick", 1, ())}, shut=None)

    def test_each_handler(self):
        wrong = [
            *[value for value in ODD_VALUES], ["tick", 1, ()], ("tick",), ("tick", 1), ("tick", 1, (), ()), ("with", 1, ()),
            ("nope", 1, ()), ("", 1, ()), (None, 1, ()), (("tick",), 1, ()), (["tick"], 1, ()), ("tick", 0, ()),
            ("tick", -1, ()), ("tick", 10 ** 12 + 1, ()), ("tick", BIG, ()), ("tick", True, ()), ("tick", None, ()),
            ("tick", "1", ()), ("tick", (), 1), ("tick", 1, []), ("tick", 1, ["b"]), ("tick", 1, None), ("tick", 1, "b"),
            ("tick", 1, ("c", "b")), ("tick", 1, ("b", "b")), ("tick", 1, ("z",)), ("tick", 1, ("b", "z")),
            ("tick", 1, (1,)), ("tick", 1, (None,)), ("tick", 1, (["b"],)), ("tick", 1, {"b"}), ("tick", 1, ("a", "c", "b")),
        ]
        for value in wrong:
            good = ("tick", 1, ("a", "b", "c"))
            for handlers in ({"b": value, "a": good, "c": good}, {"c": value, "b": value, "a": good}):
                self.refused("handler", "b", PROGRAM, "main", handlers)
                self.refused("handler", "b", PROGRAM, "main", handlers, shut=("z",))

    def test_shut(self):
        wrong = [value for value in ODD_VALUES if value != ()]
        for shut in [*wrong, ["u"], ("v", "u"), ("u", "u"), ("z",), ("u", "z"), ("w",), (True,), (("u",),), {"u"}, "u"]:
            self.refused("shut", None, PROGRAM, "main", HANDLERS, shut=shut)
        self.refused("shut", None, PROGRAM, "main", shut=("u",))
        self.refused("shut", None, PROGRAM, "main", None, shut=[])


class WithShut(Case):
    def setUp(self):
        self.handlers = {"u": ("tick", 1, ("v",)), "v": ("tock", 5, ()), "w": ("tick", 3, ("u", "w"))}
        self.house = House(PROGRAM, "main", self.handlers, shut=("v",))

    def test_of_the_task(self):
        for interrupts, shut in (([], ("v",)), (["u"], ("u", "v")), (["w", "u"], ("u", "v", "w")), (("v",), ("v",)),
                                 (["w", "w", "v"], ("v", "w")), ((), ("v",))):
            made = self.house.with_shut(interrupts)
            self.assertTrue(made == House(PROGRAM, "main", self.handlers, shut=shut), interrupts)
            self.is_same(made.shut, shut)
        made = self.house.with_shut(interrupts=["u"], handler=None)
        self.is_same(made.shut, ("u", "v"))

    def test_of_a_handler(self):
        for handler, interrupts, shut in (("u", ["u"], ("u", "v")), ("v", ["w", "u"], ("u", "w")), ("w", (), ("u", "w")),
                                          ("w", ("v", "u"), ("u", "v", "w")), ("v", [], ())):
            made = self.house.with_shut(interrupts, handler=handler)
            function, times, _ = self.handlers[handler]
            wanted = {**self.handlers, handler: (function, times, shut)}
            self.assertTrue(made == House(PROGRAM, "main", wanted, shut=("v",)))
            self.assertEqual(made.handlers(), wanted)

    def test_the_house_stays(self):
        interrupts = ["w", "u"]
        self.house.with_shut(interrupts)
        self.house.with_shut(interrupts, handler="v")
        self.is_same(interrupts, ["w", "u"])
        self.assertTrue(self.house == House(PROGRAM, "main", self.handlers, shut=("v",)))

    def test_no_lists(self):
        for value in [value for value in ODD_VALUES if not isinstance(value, (list, tuple))] + ["u", {"u"}, {"u": 1}]:
            self.fails(InvalidHouse, {"problem": "shut", "name": None}, self.house.with_shut, value)
            self.fails(InvalidHouse, {"problem": "shut", "name": None}, self.house.with_shut, value, handler="nope")

    def test_unknown_interrupts(self):
        for value in [*NO_NAMES, "z", "main", ("u",), ["u"]]:
            self.fails(UnknownInterrupt, {"name": value}, self.house.with_shut, ["u", value, "nope"])
            self.fails(UnknownInterrupt, {"name": value}, self.house.with_shut, (value,), handler="nope")

    def test_unknown_handlers(self):
        for value in [*NO_NAMES, "z", "main", ("u",), ["u"], True, 0]:
            if value is not None:
                self.fails(UnknownInterrupt, {"name": value}, self.house.with_shut, [], handler=value)
                self.fails(UnknownInterrupt, {"name": value}, self.house.with_shut, ["u"], handler=value)

    def test_nothing_is_changed_by_errors(self):
        for args, named in (([None], {}), ([["z"]], {}), ([["u"]], {"handler": "z"})):
            with self.assertRaises((InvalidHouse, UnknownInterrupt)):
                self.house.with_shut(*args, **named)
        self.assertTrue(self.house == House(PROGRAM, "main", self.handlers, shut=("v",)))
