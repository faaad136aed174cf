from nestdeep.errors import InvalidBody, InvalidProgram, UnknownFunction
from nestdeep.programs import Program
from tests.helpers import BIG, Case, NAMES, NO_NAMES, ODD_VALUES

STOP = ("stop",)


def plain(name, *body):
    return (name, (), body)


def letters(number):
    return "abcdefghijklmnopqrstuvwxyz"[number]


F = ("f", ("c", "d"), (("do", "d"), ("either", (("call", "g", ("c",)),), (("call", "t", ()), ("take", 3, "q")))))
G = ("g", ("e",), (("loop", None, (("do", "e"), ("take", BIG, "p"), ("shut", ("u", "v")))),))
T = ("t", (), (("call", "f", ("t", "s")), ("room", (("shut", ("w",)), ("call", "g", ("t",))))))
S = ("s", (), ())


class Good(Case):
    def setUp(self):
        self.program = Program([T, S, G, F])

    def test_methods(self):
        program = self.program
        self.gives(["f", "g", "s", "t"], program.names)
        self.gives([F, G, S, T], program.functions)
        self.gives(["p", "q"], program.frames)
        self.gives(["u", "v", "w"], program.interrupts)
        for name, params, body in (F, G, S, T):
            self.gives(params, program.params, name)
            self.gives(body, program.body, name)
        self.is_same(program.params(name="f"), ("c", "d"))
        self.is_same(program.body(name="s"), ())

    def test_uses(self):
        self.gives(["g", "t"], self.program.uses, "f")
        self.gives([], self.program.uses, "g")
        self.gives([], self.program.uses, "s")
        self.gives(["f", "g", "s", "t"], self.program.uses, "t")
        self.is_same(self.program.uses(name="s"), [])
        alone = Program([plain("me", ("call", "me", ()))])
        self.gives(["me"], alone.uses, "me")
        passing = Program([("a", ("x",), (("call", "a", ("b",)),)), plain("b")])
        self.gives(["a", "b"], passing.uses, "a")
        inner = Program([("a", ("x", "y"), (("loop", 2, (("either", (), (("call", "a", ("y", "x")),)),)),)), plain("b")])
        self.gives(["a"], inner.uses, "a")

    def test_most_and_of(self):
        self.is_same(Program.MOST, 24)
        self.is_same(self.program.MOST, 24)
        program = Program.of(S, T, F, G)
        self.assertIs(type(program), Program)
        self.assertTrue(program == self.program)
        self.is_same(program.functions(), [F, G, S, T])
        self.fails(InvalidProgram, {"problem": "functions", "name": ""}, Program.of)
        self.fails(InvalidProgram, {"problem": "function", "name": "0"}, Program.of, [S])
        self.fails(InvalidProgram, {"problem": "call", "name": "t"}, Program.of, T)
        self.assertTrue(Program(functions=[S]) == Program.of(S))

    def test_of_can_be_called_off_an_object(self):
        self.assertTrue(self.program.of(S) == Program([S]))

    def test_contains(self):
        for name in ("f", "g", "s", "t"):
            self.assertIs(name in self.program, True)
        for value in [*NO_NAMES, *ODD_VALUES, "c", "d", "u", "p", "stop", F, ("f",), b"f", ["f"]]:
            self.assertIs(value in self.program, False)

    def test_len_and_iteration(self):
        self.assertEqual(len(self.program), 4)
        self.is_same(list(self.program), [F, G, S, T])
        self.is_same(list(self.program), [F, G, S, T])
        self.is_same([name for name, _, _ in self.program], ["f", "g", "s", "t"])
        self.assertEqual(len(Program([S])), 1)

    def test_unknown_functions(self):
        for value in [*[name for name in NO_NAMES if name != ""], *ODD_VALUES, "c", "u", "F", F, ["f"], ("f",)]:
            for action in (self.program.params, self.program.body, self.program.uses):
                self.fails(UnknownFunction, {"name": value}, action, value)

    def test_equality(self):
        for functions in ([F, G, S, T], (T, G, F, S), [S, T, G, F]):
            self.assertTrue(self.program == Program(functions))
            self.assertFalse(self.program != Program(functions))
        others = [Program([S]), Program([F, G, T, ("s", (), (STOP,))]), Program([F, G, T, S, plain("z")])]
        for other in [*others, None, 1, "f", [F, G, S, T], (F, G, S, T), repr(self.program), object()]:
            self.assertFalse(self.program == other)
            self.assertTrue(self.program != other)

    def test_parameter_names_count(self):
        one, other = Program([("f", ("x",), ())]), Program([("f", ("y",), ())])
        self.assertFalse(one == other)

    def test_repr(self):
        self.assertEqual(repr(Program([S])), "Program([('s', (), ())])")
        self.assertEqual(repr(self.program), f"Program({[F, G, S, T]!r})")
        self.assertTrue(eval(repr(self.program)) == self.program)

    def test_returned_lists_are_new(self):
        program = self.program
        for action in (program.names, program.functions, program.frames, program.interrupts):
            kept = list(action())
            action().append("x")
            action().clear()
            self.is_same(action(), kept)
        program.uses("t").clear()
        self.is_same(program.uses("t"), ["f", "g", "s", "t"])

    def test_the_list_is_copied(self):
        functions = [T, S, G, F]
        program = Program(functions)
        self.is_same(functions, [T, S, G, F])
        functions.clear()
        self.is_same(program.functions(), [F, G, S, T])
        functions = [S]
        program = Program(functions)
        functions[0] = plain("z")
        self.is_same(program.names(), ["s"])

    def test_two_programs_share_nothing(self):
        other = Program([S])
        self.is_same(self.program.names(), ["f", "g", "s", "t"])
        self.is_same(other.names(), ["s"])
        self.is_same((other.frames(), other.interrupts()), ([], []))

    def test_sorted_as_strings(self):
        program = Program([plain(name) for name in ("b", "ab", "a", "zz", "aa", "z")])
        self.is_same(program.names(), ["a", "aa", "ab", "b", "z", "zz"])

    def test_names_of_different_things_may_be_equal(self):
        body = (("take", 1, "x"), ("shut", ("x",)), ("take", 1, "f"), ("shut", ("f",)), ("do", "x"))
        program = Program([("f", ("x",), body), ("g", ("x", "y"), ())])
        self.is_same((program.frames(), program.interrupts()), (["f", "x"], ["f", "x"]))


class Refusals(Case):
    def refused(self, problem, name, functions):
        self.fails(InvalidProgram, {"problem": problem, "name": name}, Program, functions)
        if isinstance(functions, list):
            self.fails(InvalidProgram, {"problem": problem, "name": name}, Program, tuple(functions))


class Heads(Refusals):
    def test_functions(self):
        wrong = [value for value in ODD_VALUES if not isinstance(value, (list, tuple))]
        for value in [*wrong, [], (), {"f": S}, {S}, iter([S]), "f", Program([S])]:
            self.refused("functions", "", value)

    def test_none_one_twenty_four_and_more(self):
        many = [plain(letters(at)) for at in range(26)]
        self.refused("functions", "", [])
        self.assertEqual(len(Program(many[:1])), 1)
        self.assertEqual(len(Program(many[:24])), 24)
        self.refused("functions", "", many[:25])
        self.refused("functions", "", many)
        self.refused("functions", "", [None] * 25)

    def test_function(self):
        for value in [*ODD_VALUES, ("f",), ("f", ()), ("f", (), (), ()), ["f", (), ()], "fgh"]:
            self.refused("function", "0", [value])
            self.refused("function", "1", [S, value])
            self.refused("function", "11", [plain(letters(at)) for at in range(11)] + [value, None])

    def test_name(self):
        for value in NO_NAMES:
            self.refused("name", "0", [(value, None, None)])
            self.refused("name", "2", [S, G, (value, (), ()), S])
        for name in NAMES:
            self.assertEqual(Program([plain(name)]).names(), [name])

    def test_repeated(self):
        self.refused("repeated", "s", [S, S])
        self.refused("repeated", "s", [S, plain("a"), ("s", None, None), ("a", (), ())])

    def test_params(self):
        wrong = [None, True, 0, 1, "x", "", ["x"], [], {}, {"x"}, ("x", "y", "z"), ("x", "x"), (1,), (True,), (None,),
                 ((),), ("",), ("abcdefghi",), ("x", None), ("x", "Y"), ("do",), ("x", "either"), (["x"],), (("x",),)]
        for value in wrong:
            self.refused("params", "f", [("f", value, ())])
            self.refused("params", "f", [S, ("f", value, None), ("f", (), ()), None])
        for name in NO_NAMES:
            self.refused("params", "f", [("f", ("x", name), ())])
        for params in ((), ("x",), ("x", "y"), ("y", "x"), ("abcdefgh", "z")):
            self.is_same(Program([("f", params, ())]).params("f"), params)

    def test_each_item_in_turn(self):
        self.refused("params", "f", [("f", ("x", "x"), ()), None])
        self.refused("function", "0", [None, ("f", ("x", "x"), ())])
        self.refused("name", "0", [("F", (), ()), None])
        self.refused("repeated", "s", [S, S, None])
        self.refused("params", "s", [("s", 5, ()), ("s", (), ())])
        self.refused("function", "2", [("f", ("f",), ()), ("g", (), 5), None])


class Parts(Refusals):
    def test_heads_come_first(self):
        self.refused("function", "1", [("f", ("f",), None), ["g", (), ()]])

    def test_parameter(self):
        self.refused("parameter", "f", [("f", ("f",), ())])
        self.refused("parameter", "f", [("f", ("x", "s"), None), S])
        self.refused("parameter", "g", [S, ("g", ("z", "s"), ()), ("f", ("g",), ())])
        self.refused("parameter", "f", [("f", ("g",), ()), ("a", (), None), ("g", (), ())])

    def test_body(self):
        wrong = [(None, ()), ([], ()), ((STOP,) * 13, ()), ((STOP, ("take", True, "a")), (1,)),
                 ((("room", (STOP, None)),), (0, 0, 1))]
        for body, place in wrong:
            functions = [S, ("f", (), body), ("g", ("s",), ())]
            error = self.fails(InvalidProgram, {"problem": "body", "name": "f"}, Program, functions)
            self.assertIs(type(error.__cause__), InvalidBody)
            self.is_same(error.__cause__.place, place)

    def test_only_body_has_a_cause(self):
        for functions in ([], [None], [S, S], [("f", ("f",), ())], [plain("f", ("do", "x"))]):
            self.assertIsNone(self.fails(InvalidProgram, {}, Program, functions).__cause__)

    def test_sixty_and_sixty_one_statements(self):
        eleven = ("room", (STOP,) * 11)
        self.assertEqual(len(Program([plain("f", *[eleven] * 5)])), 1)
        self.refused("statements", "f", [plain("f", STOP, *[eleven] * 5)])
        self.refused("statements", "f", [S, plain("f", *[("loop", 2, (STOP,) * 12)] * 5), plain("g", None)])
        sixty = plain("f", *[("either", (STOP,) * 4, (STOP,) * 5)] * 6)
        self.assertEqual(len(Program([sixty, ("g", (), sixty[2])])), 2)
        self.refused("statements", "g", [("g", (), (*sixty[2], STOP)), sixty])

    def test_each_function_in_turn(self):
        many = plain("m", *[("room", (STOP,) * 12)] * 5)
        self.refused("statements", "m", [many, ("f", ("m",), ())])
        self.refused("parameter", "f", [("f", ("m",), ()), many])
        self.refused("body", "b", [("b", (), 5), ("f", ("b",), ()), many])
        self.refused("parameter", "b", [("b", ("m",), 5), many])

    def test_parts_come_ahead_of_calls(self):
        self.refused("body", "g", [plain("f", ("call", "x", ())), ("g", (), None)])
        self.refused("parameter", "g", [plain("f", ("do", "x")), ("g", ("f",), ())])


class Calls(Refusals):
    def test_heads_come_first(self):
        self.refused("function", "1", [plain("f", ("do", "x")), None])

    def test_call(self):
        for name in ("x", "h", "ff"):
            self.refused("call", "f", [S, ("f", ("x",), (("call", name, ()),))])
            self.refused("call", "f", [S, ("f", ("x",), (("loop", 1, (("call", name, ("x", "nope")),)),))])

    def test_numbers_of_args(self):
        for args in ((), ("s",), ("s", "s")):
            for params in ((), ("x",), ("x", "y")):
                functions = [("f", params, ()), S, plain("main", ("call", "f", args))]
                if len(args) == len(params):
                    self.assertEqual(len(Program(functions)), 3)
                else:
                    self.refused("args", "main", functions)

    def test_which_args(self):
        two = ("two", ("p", "q"), ())
        for arg in ("x", "y", "s"):
            Program([two, S, ("f", ("x", "y"), (("call", "two", (arg, "s")),))])
            Program([two, S, ("f", ("x", "y"), (("call", "two", ("s", arg)),))])
        for arg in ("p", "two", "f", "nope", "z"):
            for args in ((arg, "s"), ("s", arg)):
                self.refused("args", "f", [two, S, ("f", ("x", "y"), (("call", "two", args),))])
        Program([("f", ("x",), ()), plain("g", ("call", "f", ("g",)))])

    def test_do(self):
        Program([("f", ("x", "y"), (("do", "x"), ("do", "y"), ("room", (("do", "x"),))))])
        for name in ("z", "f", "s", "p"):
            self.refused("do", "f", [S, ("g", ("p",), ()), ("f", ("x", "y"), (("do", "x"), ("do", name)))])
        self.refused("do", "s", [plain("s", ("do", "s"))])

    def test_first_wrong_statement_in_the_order_of_the_text(self):
        call, args, do = ("call", "nope", ("nope",)), ("call", "s", ("s",)), ("do", "nope")
        for first, problem in ((call, "call"), (args, "args"), (do, "do")):
            for second in (call, args, do):
                for body in ((first, second), (("either", (first,), (second,)), second), (("room", (first,)), second),
                             (("either", (), (STOP, first)), second), (("loop", None, (("room", (first,)), second)),)):
                    self.refused(problem, "f", [S, ("f", (), body)])

    def test_functions_in_the_sequence_in_which_they_are_passed(self):
        bad = [plain("b", ("call", "nope", ())), plain("a", ("do", "x"))]
        self.refused("call", "b", bad)
        self.refused("do", "a", bad[::-1])
        self.refused("body", "z", [("z", (), 1), ("a", (), 1)])
        self.refused("parameter", "z", [("z", ("a",), 1), ("a", (), 1)])


class Numbers(Refusals):
    def takes(self, *frames):
        return tuple(("take", 1, frame) for frame in frames)

    def test_calls_come_first(self):
        self.refused("do", "f", [plain("f", *self.takes(*"abcdefg"), ("do", "x"))])

    def test_six_frames_and_seven(self):
        self.is_same(Program([plain("f", *self.takes(*"fedcba"))]).frames(), [*"abcdef"])
        self.is_same(Program([plain("f", *self.takes(*"abcd")), plain("g", *self.takes(*"cdef"))]).frames(), [*"abcdef"])
        self.refused("frames", "", [plain("f", *self.takes(*"abcdefg"))])
        self.refused("frames", "", [plain("f", *self.takes(*"abcd")), plain("g", ("room", self.takes(*"efg")))])

    def test_five_interrupts_and_six(self):
        self.is_same(Program([plain("f", ("shut", tuple("abcde")))]).interrupts(), [*"abcde"])
        split = [plain("f", ("shut", tuple("cde"))), plain("g", ("loop", 2, (("shut", tuple("abc")),)))]
        self.is_same(Program(split).interrupts(), [*"abcde"])
        self.refused("interrupts", "", [plain("f", ("shut", tuple("abcdef")))])
        self.refused("interrupts", "", [*split, plain("h", ("shut", ("f",)))])

    def test_frames_come_ahead_of_interrupts_and_behind_calls(self):
        wrong = (("shut", tuple("abcdef")), *self.takes(*"abcdefg"))
        self.refused("frames", "", [("f", (), wrong)])
        self.refused("call", "g", [("f", (), wrong), plain("g", ("call", "h", ()))])
