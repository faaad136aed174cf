from nestdeep.errors import InvalidBody
from nestdeep.functions import RESERVED, check_body, is_name, statements
from tests.helpers import BIG, Case, NAMES, NO_NAMES, ODD_VALUES, RESERVED_WORDS

STOP = ("stop",)
STATEMENTS = [
    ("take", 1, "a"), ("take", BIG, "abcdefgh"), ("shut", ("u",)), ("shut", ("a", "b", "c", "d", "e", "f", "g")),
    ("room", ()), ("room", (STOP,)), ("call", "f", ()), ("call", "f", ("x",)), ("call", "f", ("y", "x")),
    ("call", "f", ("f", "f")), ("do", "x"), ("either", (), ()), ("either", (STOP,), ()), ("either", (), (STOP, STOP)),
    ("loop", 1, ()), ("loop", 10 ** 12, (STOP,)), ("loop", None, ()), ("loop", 5, (("take", 2, "b"), STOP)), STOP,
    ("room", (STOP,) * 12), ("either", (STOP,) * 12, (STOP,) * 12), ("loop", 3, (STOP,) * 12),
]
NO_STATEMENTS = [
    (), "stop", ["stop"], ("stop", ()), ("stop", None), ("stop", "stop"), ("Stop",), ("",), ("a",), ("else",), ("end",),
    (b"stop",), (None,), (True,), (1,), ((),), (("stop",),), ([],), ({},), (int,), None, True, 0, 1, {}, set(), object(),
    ("take",), ("take", 1), ("take", "a"), ("take", "a", 1), ("take", 1, "a", 1), ("take", 0, "a"), ("take", -1, "a"),
    ("take", True, "a"), ("take", None, "a"), ("take", "1", "a"), ("take", (1,), "a"), ("take", [1], "a"),
    ["take", 1, "a"], ("shut",), ("shut", ()), ("shut", ("u",), ("v",)), ("shut", "u"), ("shut", "u", "v"),
    ("shut", ["u"]), ("shut", ("v", "u")), ("shut", ("u", "u")), ("shut", ("u", "v", "v")), ("shut", ("u", None)),
    ("shut", ("u", 1)), ("shut", (("u",),)), ("shut", {"u"}), ("shut", {"u": 1}), ("shut", None), ["shut", ("u",)],
    ("shut", (["u"],)), ("shut", ("u", "w", "v")),
    ("room",), ("room", None), ("room", []), ("room", [STOP]), ("room", STOP * 13), ("room", (STOP,) * 13),
    ("room", (), ()), ("room", 1, ()), ("room", "stop"), ["room", ()], ("room", {}),
    ("call",), ("call", "f"), ("call", ()), ("call", "f", "x"), ("call", "f", ["x"]), ("call", "f", ("x", "y", "z")),
    ("call", "f", (1,)), ("call", "f", (True,)), ("call", "f", ((),)), ("call", "f", ("x",), ()), ("call", None, ()),
    ("call", ("f",), ()), ("call", "f", None), ("call", "f", ("x", None)), ["call", "f", ()], ("call", "f", {"x": 1}),
    ("do",), ("do", "x", ()), ("do", ("x",)), ("do", ()), ("do", None), ("do", 1), ["do", "x"], ("do", ["x"]),
    ("either",), ("either", ()), ("either", (), (), ()), ("either", [], ()), ("either", (), []), ("either", None, ()),
    ("either", (), None), ("either", (STOP,) * 13, ()), ("either", (), (STOP,) * 13), ["either", (), ()],
    ("loop",), ("loop", 1), ("loop", ()), ("loop", (), 1), ("loop", 1, (), ()), ("loop", 0, ()), ("loop", -1, ()),
    ("loop", 10 ** 12 + 1, ()), ("loop", BIG, ()), ("loop", True, ()), ("loop", False, ()), ("loop", "1", ()),
    ("loop", (), ()), ("loop", 1, []), ("loop", None, None), ("loop", None, (STOP,) * 13), ["loop", 1, ()],
    ("loop", "", ()), ("loop", [], ()),
]


def nested(inner, word="room"):
    """A statement of this word around a body."""
    return {"room": ("room", inner), "first": ("either", inner, ()), "second": ("either", (), inner),
            "loop": ("loop", 2, inner)}[word]


def deep(inner, words):
    """A body with statements of these words in one another, the innermost around inner."""
    for word in reversed(words):
        inner = (nested(inner, word),)
    return inner


class Names(Case):
    def test_reserved(self):
        self.is_same(RESERVED, tuple(sorted(RESERVED_WORDS)))
        self.assertEqual(len(RESERVED), 25)

    def test_names(self):
        for name in [*NAMES, *"abcdefghijklmnopqrstuvwxyz"]:
            self.gives(True, is_name, name)
        self.assertIs(is_name(value="a"), True)

    def test_others(self):
        for value in [*NO_NAMES, *[value for value in ODD_VALUES if value != "a"]]:
            self.assertIs(is_name(value), False, value)

    def test_lengths(self):
        for length in range(12):
            self.assertIs(is_name("q" * length), 1 <= length <= 8)


class Bodies(Case):
    def test_good_bodies(self):
        self.gives(None, check_body, ())
        self.gives([], statements, ())
        for statement in STATEMENTS:
            self.gives(None, check_body, (statement,))
            self.gives(None, check_body, (STOP, statement, STOP))
            self.gives(None, check_body, (nested((statement,), "loop"),))
        self.is_same(check_body(body=(STOP,)), None)
        self.is_same(statements(body=(STOP,)), [((0,), STOP)])

    def test_no_bodies(self):
        wrong = [value for value in ODD_VALUES if not isinstance(value, tuple)]
        wrong += [[], [STOP], (STOP,) * 13, ((),) * 13, (None,) * 400, "stop", {"stop": 1}, {0: STOP}]
        for value in wrong:
            self.fails(InvalidBody, {"place": ()}, check_body, value)
            self.fails(InvalidBody, {"place": ()}, statements, value)

    def test_no_statements(self):
        for wrong in NO_STATEMENTS:
            for action in (check_body, statements):
                self.fails(InvalidBody, {"place": (0,)}, action, (wrong,))
                self.fails(InvalidBody, {"place": (2,)}, action, (STOP, ("room", (STOP,)), wrong, None))
                for word, place in (("room", (1, 0, 1)), ("first", (1, 0, 1)), ("second", (1, 1, 1)), ("loop", (1, 0, 1))):
                    self.fails(InvalidBody, {"place": place}, action, (STOP, nested((STOP, wrong), word), None))

    def test_names_in_statements(self):
        shapes = [lambda name: ("take", 1, name), lambda name: ("shut", (name,)), lambda name: ("call", name, ()),
                  lambda name: ("call", "f", (name,)), lambda name: ("call", "f", ("x", name)), lambda name: ("do", name)]
        for shape in shapes:
            for name in NAMES:
                self.gives(None, check_body, (shape(name),))
            for name in NO_NAMES:
                self.fails(InvalidBody, {"place": (0,)}, check_body, (shape(name),))

    def test_the_outer_statement_comes_first(self):
        wrong = ("take", 0, "a")
        bodies = [
            ((("either", (wrong,), [wrong]), wrong), (0,)),
            ((("either", (STOP, wrong), (wrong,)), wrong), (0, 0, 1)),
            ((("either", (STOP,), (wrong,)), wrong), (0, 1, 0)),
            ((("either", (), ()), ("loop", 0, (wrong,)), wrong), (1,)),
            ((("room", (("room", (wrong,)), wrong)), wrong), (0, 0, 0, 0, 0)),
            ((("room", (("room", (STOP,)), wrong)), wrong), (0, 0, 1)),
            ((("room", (wrong,) * 13), wrong), (0,)),
            ((("loop", 2, (("either", (STOP,), (STOP, ("room", (STOP, STOP, wrong)))),)),), (0, 0, 0, 1, 1, 0, 2)),
        ]
        for body, place in bodies:
            self.fails(InvalidBody, {"place": place}, check_body, body)
            self.fails(InvalidBody, {"place": place}, statements, body)

    def test_twelve_and_thirteen_statements(self):
        self.gives(None, check_body, (STOP,) * 12)
        self.fails(InvalidBody, {"place": ()}, check_body, (STOP,) * 13)
        self.fails(InvalidBody, {"place": (11,)}, check_body, (STOP,) * 11 + (("room", (STOP,) * 13),))
        self.fails(InvalidBody, {"place": (0, 0, 0)}, check_body, (("loop", None, (("either", (), (STOP,) * 13),)),))

    def test_four_blocks_and_a_fifth(self):
        for words in (["room"] * 4, ["first"] * 4, ["second"] * 4, ["loop"] * 4, ["room", "loop", "second", "first"]):
            body = deep((STOP, ("take", 1, "a")), words)
            self.gives(None, check_body, body)
            place = ()
            for word in words:
                place += (0, 1 if word == "second" else 0)
            self.is_same(statements(body)[-1], (place + (1,), ("take", 1, "a")))
            self.is_same(statements(body)[-2], (place + (0,), STOP))
            for fifth in (("room", ()), ("either", (), ()), ("loop", 2, ()), ("room", (STOP,)), ("room", (None,))):
                wrong = deep((STOP, fifth, None), words)
                self.fails(InvalidBody, {"place": place + (1,)}, check_body, wrong)
                self.fails(InvalidBody, {"place": place + (1,)}, statements, wrong)

    def test_very_deep_bodies_are_refused(self):
        self.fails(InvalidBody, {"place": (0, 0) * 4 + (0,)}, check_body, deep((STOP,), ["room"] * 18))


class Statements(Case):
    def test_order_and_places(self):
        take, shut, call, do = ("take", 2, "a"), ("shut", ("u", "v")), ("call", "f", ("x", "y")), ("do", "x")
        inner = ("loop", None, (do, STOP))
        either = ("either", (shut, inner), (call,))
        room = ("room", (either, take))
        body = (take, room, ("either", (), ()), ("loop", 3, ()), STOP)
        self.gives([
            ((0,), take), ((1,), room), ((1, 0, 0), either), ((1, 0, 0, 0, 0), shut), ((1, 0, 0, 0, 1), inner),
            ((1, 0, 0, 0, 1, 0, 0), do), ((1, 0, 0, 0, 1, 0, 1), STOP), ((1, 0, 0, 1, 0), call), ((1, 0, 1), take),
            ((2,), ("either", (), ())), ((3,), ("loop", 3, ())), ((4,), STOP),
        ], statements, body)

    def test_the_list_is_new(self):
        body = (STOP,)
        statements(body).append(1)
        self.is_same(statements(body), [((0,), STOP)])

    def test_many_statements(self):
        body = (("room", (STOP,) * 12),) * 12
        self.assertEqual(len(statements(body)), 156)
        self.is_same(statements(body)[-1], ((11, 0, 11), STOP))
