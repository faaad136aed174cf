import random
import unittest

from nestdeep.contexts import depth_in, house_in, is_context
from nestdeep.errors import InvalidContext, InvalidForm, TooMany, UnknownFunction
from nestdeep.forming import form_of
from nestdeep.forms import Form
from nestdeep.functions import is_name
from nestdeep.house import House
from nestdeep.nests import greatest_depth, is_endless
from nestdeep.programs import Program
from tests.contexts import modelled_depth, some_context
from tests.helpers import BIG, NO_NAMES, ODD_VALUES, Case
from tests.odd import odd_values, oddly_spoilt
from tests.programs import some_functions

A, B, STOP, DO_C, DO_D = ("take", 1, "a"), ("take", 1, "b"), ("stop",), ("do", "c"), ("do", "d")
START, END = ((), (), "now", ()), ((), (), "end", ())
CONTEXT = (((True, 0), (False, 5)), (("u", 1), ("v", 7)), (("a", 1), ("b", 9)), 3)


def shut(*names):
    return ("shut", names)


class Contexts(Case):
    def test_right_ones(self):
        self.gives(True, is_context, ("c", "d"), CONTEXT)
        self.gives(True, is_context, callbacks=("c", "d"), value=CONTEXT)
        self.gives(True, is_context, (), ((), (), (), 0))
        self.gives(True, is_context, ("c",), (((False, BIG),), tuple((name, BIG) for name in "stuvw"), (("a", BIG),), BIG))
        self.gives(True, is_context, ("c", "d"), (((True, 0), (True, 0)), (), (), 0))

    def test_wrong_ones(self):
        passed, handlers, sizes, behind = CONTEXT
        for value in (
            (passed, handlers, sizes), (passed, handlers, sizes, behind, 0), list(CONTEXT), None,
            (passed[:1], handlers, sizes, behind), ((*passed, passed[0]), handlers, sizes, behind), (list(passed), handlers, sizes, behind), ((), handlers, sizes, behind),
            ((passed[0], (1, 5)), handlers, sizes, behind), ((passed[0], (None, 5)), handlers, sizes, behind), ((passed[0], (True, -1)), handlers, sizes, behind),
            ((passed[0], (True, True)), handlers, sizes, behind), ((passed[0], [True, 1]), handlers, sizes, behind), ((passed[0], (True,)), handlers, sizes, behind),
            ((passed[0], (True, 1, 1)), handlers, sizes, behind), ((passed[0], (5, True)), handlers, sizes, behind),
            (passed, handlers[::-1], sizes, behind), (passed, (("u", 1), ("u", 2)), sizes, behind), (passed, list(handlers), sizes, behind), (passed, (("u", 0),), sizes, behind),
            (passed, (("u", True),), sizes, behind), (passed, (("u",),), sizes, behind), (passed, (("u", 1, 1),), sizes, behind), (passed, (["u", 1],), sizes, behind), (passed, dict(handlers), sizes, behind),
            (passed, tuple((name, 1) for name in "stuvwx"), sizes, behind),
            (passed, handlers, sizes[::-1], behind), (passed, handlers, (("a", 1), ("a", 1)), behind), (passed, handlers, dict(sizes), behind), (passed, handlers, list(sizes), behind),
            (passed, handlers, (("a", 0),), behind), (passed, handlers, (("a", True),), behind), (passed, handlers, (("a", -1),), behind), (passed, handlers, (("a",),), behind),
            (passed, handlers, sizes, -1), (passed, handlers, sizes, True), (passed, handlers, sizes, None), (passed, handlers, sizes, (3,)),
        ):
            self.gives(False, is_context, ("c", "d"), value)
        for name in NO_NAMES:
            self.assertIs(is_context(("c", "d"), (passed, ((name, 1),), sizes, behind)), False)
            self.assertIs(is_context(("c", "d"), (passed, handlers, ((name, 1),), behind)), False)
        self.gives(False, is_context, ("c",), CONTEXT)
        self.gives(False, is_context, (), CONTEXT)

    def test_values_of_any_kind(self):
        for value in (*ODD_VALUES, *odd_values()):
            self.assertIs(is_context(("c", "d"), value), False)
            for at in range(4):
                other = (*CONTEXT[:at], value, *CONTEXT[at + 1:])
                if not (at in (1, 2) and isinstance(value, tuple) and value == ()) and not (at == 3 and type(value) is int and value >= 0):
                    self.assertIs(is_context(("c", "d"), other), False)
        for other in oddly_spoilt(CONTEXT):
            self.assertIs(is_context(("c", "d"), other), False)
        self.assertIs(is_context((), ((), (), (), 0)), True)


class Depths(Case):
    # c is called with 1 a taken and u shut; behind it there are 3 b, behind d it is endless.
    FORM = form_of(Program([("f", ("c", "d"), (("room", (shut("u"), A, DO_C)), ("take", 3, "b"), DO_D, ("loop", None, (A,))))]), "f")

    def depth(self, wanted, *context):
        self.gives(wanted, depth_in, self.FORM, context)
        self.is_same(modelled_depth(self.FORM, context), wanted)

    def test_depths(self):
        sizes = (("a", 10), ("b", 100))
        stuck, back = (False, 0), (True, 0)
        self.depth(10, (stuck, stuck), (), sizes, 0)
        self.depth(10, (stuck, stuck), (), sizes, BIG)
        self.depth(10, (stuck, back), (), sizes, 0)
        self.depth(14, ((False, 4), back), (), sizes, 0)
        self.depth(300, (back, stuck), (), sizes, 0)
        self.depth(302, (back, (False, 2)), (), sizes, 0)
        self.depth(305, ((True, 295), stuck), (), sizes, 0)
        self.depth(None, (back, back), (), sizes, 0)
        self.depth(None, ((True, 1), (True, 1)), (("u", 5),), sizes, 9)
        self.depth(10, (stuck, stuck), (("u", 9),), sizes, 0)
        self.depth(11, (stuck, stuck), (("u", 11),), sizes, 0)
        self.depth(21, (stuck, stuck), (("v", 11),), sizes, 0)
        self.depth(22, (stuck, stuck), (("u", 11), ("v", 11)), sizes, 0)
        self.depth(322, (back, stuck), (("u", 11), ("v", 11)), sizes, 0)
        self.depth(310, (back, stuck), (("s", 1), ("t", 2), ("x", 3), ("y", 4)), (*sizes, ("c", 5)), 0)

    def test_behind(self):
        program = Program([("f", ("c",), (A, DO_C, shut("u"))), ("g", (), (("loop", None, (A,)),)), ("h", ("c",), (STOP,))])
        f, g, h = [form_of(program, name) for name in "fgh"]
        for behind, cells, returns, depth in ((0, 0, True, 2), (1, 0, True, 2), (2, 0, True, 2), (5, 0, True, 5), (5, 0, False, 2), (0, 4, False, 6), (5, 4, True, 6), (7, 4, True, 7)):
            self.gives(depth, depth_in, f, (((returns, cells),), (), (("a", 2),), behind))
            self.gives(depth + 3, depth_in, f, (((returns, cells),), (("v", 3),), (("a", 2),), behind))
        self.gives(None, depth_in, g, ((), (), (("a", 1),), 0))
        self.gives(None, depth_in, g, ((), (("u", 1),), (), 5))
        self.gives(4, depth_in, h, (((True, 9),), (("u", 4),), (), 9))
        self.gives(0, depth_in, h, (((True, 9),), (), (), 9))
        self.gives(8, depth_in, form=f, context=(((True, 0),), (), (("a", 8),), 7))

    def test_errors(self):
        right = (((True, 0), (True, 0)), (), (("a", 1), ("b", 1)), 0)
        wrong_forms = [Form((("g", ()),), (), (START, END)), Form((), (), (((("a", 1),), (), "now", ()), ((("a", 1),), (), "end", ()))),
                       Form((), (), (START, ((), ("u",), "end", ())))]
        for form in wrong_forms:
            for context in (right, None, ((), (), (("a", 1),), 0)):
                self.fails(InvalidForm, {"problem": "function", "value": form}, depth_in, form, context)
        for value in (*ODD_VALUES, *odd_values()):
            with self.assertRaises(InvalidForm) as caught:
                depth_in(value, right)
            self.assertIs(caught.exception.value, value)
            with self.assertRaises(InvalidContext) as caught:
                depth_in(self.FORM, value)
            self.assertIs(caught.exception.value, value)
        for context in ((*right[:2], (("a", 1),), 0), (*right[:2], (("b", 1),), 0), (*right[:2], (), 0), (right[0][:1], *right[1:]), (*right[:3], True), ((), (), (), 0)):
            self.fails(InvalidContext, {"value": context}, depth_in, self.FORM, context)
        for other in oddly_spoilt(right):
            with self.assertRaises(InvalidContext) as caught:
                depth_in(self.FORM, other)
            self.assertIs(caught.exception.value, other)
        # An endless form may have no frames left that would need sizes.
        self.gives(None, depth_in, Form(("c",), ((),), ()), (((True, 0),), (), (), 0))


class Houses(Case):
    def made(self, program, name, context):
        before = (repr(program), repr(context))
        house, sizes = house_in(program, name, context)
        self.assertEqual((repr(program), repr(context)), before)
        self.assertEqual((type(house), type(sizes)), (House, dict))
        again, others = house_in(program, name, context)
        self.assertTrue(house == again and sizes == others and sizes is not others)
        new_frames = sorted(set(sizes) - {frame for frame, _ in context[2]})
        self.assertEqual(len(new_frames), 1)
        self.is_same(sizes, {**dict(context[2]), new_frames[0]: 1})
        new = [row for row in house.program if row not in program.functions()]
        self.assertEqual(len(house.program), len(program) + len(new))
        self.assertEqual(len(new), len(context[0]) + len(context[1]) + 1)
        old = {*program.names(), *program.frames(), *program.interrupts(), *(frame for frame, _ in context[2])}
        old |= {param for _, params, _ in program for param in params}
        for fresh in [*new_frames, *(row[0] for row in new)]:
            self.assertTrue(is_name(fresh) and fresh not in old, fresh)
        self.assertLessEqual(set(program.frames()), set(sizes))
        self.assertEqual(house.shut, ())
        self.assertEqual({name: handler[1:] for name, handler in house.handlers().items()}, {name: (1, ()) for name, _ in context[1]})
        return house, sizes

    def test_a_house(self):
        program = Program([("f", ("d", "c"), (A, DO_C, DO_D, B))])
        house, sizes = self.made(program, "f", CONTEXT)
        frame = next(name for name in sizes if name not in "ab")
        body = house.program.body(house.task)
        self.assertEqual(body[1:], (("take", 3, frame),))
        word, called, (second, first) = body[0]
        self.assertEqual((word, called), ("call", "f"))
        self.is_same(house.program.body(first), ())
        self.is_same(house.program.body(second), (("take", 5, frame), STOP))
        self.is_same([house.program.body(house.handler(name)[0]) for name in "uv"], [(("take", 1, frame),), (("take", 7, frame),)])
        self.is_same(house.program.body("f"), program.body("f"))

    def test_what_is_not_taken(self):
        program = Program([("f", ("c",), (DO_C,)), ("g", (), ())])
        house, sizes = self.made(program, "f", (((False, 0),), (), (), 0))
        self.assertEqual(house.program.frames(), [])
        self.is_same(house.program.body(house.program.body(house.task)[0][2][0]), (STOP,))
        house, sizes = self.made(program, "g", ((), (), (("z", 3),), 0))
        self.is_same(house.program.body(house.task), (("call", "g", ()),))

    def test_likely_names_are_taken(self):
        letters = "abcdefghijklmnopqrstuvwxyz"
        functions = [(letters[at], (letters[at + 8] * 2, letters[at + 8] * 3), (("take", 1, "aa"), shut("z"))) for at in range(16)]
        program = Program(functions)
        context = (((True, 1), (False, 1)), (("u", 1), ("z", 1)), tuple((name, 1) for name in sorted(["aa", "q", "r", "s", "t", "v", "task", "x", "y", "zz"]) if is_name(name)), 4)
        self.made(program, "a", context)
        self.is_same(greatest_depth(*house_in(program, "a", context))[0], 6)

    def test_errors(self):
        program = Program([("f", ("d", "c"), (A, DO_C, DO_D, B)), ("g", (), (("take", 1, "e"),))])
        context = (*CONTEXT[:2], (("a", 1), ("b", 1), ("e", 1)), 0)
        self.made(program, "f", context)
        for name in (*ODD_VALUES, "h", "c", *odd_values()):
            for value in (context, None):
                with self.assertRaises(UnknownFunction) as caught:
                    house_in(program, name, value)
                self.assertIs(caught.exception.name, name)
        for value in (*ODD_VALUES, *odd_values(), CONTEXT, (context[0][:1], *context[1:]), (*context[:3], -1), (*context[:2], context[2][:2], 0)):
            with self.assertRaises(InvalidContext) as caught:
                house_in(program, "f", value)
            self.assertIs(caught.exception.value, value)
        self.fails(InvalidContext, {"value": context}, house_in, program, "g", context)
        self.is_same(repr(house_in(program=program, function="f", context=context)), repr(house_in(program, "f", context)))

    def test_too_many_functions(self):
        rows = [("f", ("c", "d"), (DO_C,)), *((letter + letter, (), ()) for letter in "ghijklmnopqrstuvwxyz")]
        program = Program(rows)
        self.assertEqual(len(program), 21)
        pair = ((True, 1), (True, 1))
        self.made(program, "f", (pair, (), (), 0))
        self.fails(TooMany, {"name": "functions"}, house_in, program, "f", (pair, (("u", 1),), (), 0))
        self.made(program, "gg", ((), (("u", 1), ("v", 1)), (), 0))
        self.fails(TooMany, {"name": "functions"}, house_in, program, "gg", ((), (("u", 1), ("v", 1), ("w", 1)), (), 0))
        full = Program([*rows, *((letter * 3, (), tuple(("take", 1, frame) for frame in "abcdez"[:6])) for letter in "ghi")])
        self.assertEqual(len(full), 24)
        sizes = tuple((frame, 1) for frame in "abcdez")
        self.fails(TooMany, {"name": "functions"}, house_in, full, "ggg", ((), (), sizes, 0))
        self.fails(TooMany, {"name": "functions"}, house_in, full, "ggg", ((), (), sizes, 1))
        self.fails(InvalidContext, {"value": ((), (), (), 1)}, house_in, full, "ggg", ((), (), (), 1))

    def test_too_many_frames(self):
        program = Program([("f", ("c",), (*(("take", 1, frame) for frame in "abdefg"), DO_C))])
        sizes = tuple((frame, 2) for frame in "abdefg")
        house, told = self.made(program, "f", (((False, 0),), (), sizes, 0))
        self.is_same(greatest_depth(house, told)[0], 12)
        for context in ((((False, 1),), (), sizes, 0), (((True, 0),), (("u", 1),), sizes, 0), (((True, 0),), (), sizes, 1)):
            self.fails(TooMany, {"name": "frames"}, house_in, program, "f", context)
        five = Program([("f", ("c",), (*(("take", 1, frame) for frame in "abdef"), DO_C))])
        house, told = self.made(five, "f", (((True, 2),), (("u", 1),), sizes, 1))
        self.is_same(greatest_depth(house, told)[0], 13)

    def test_depths_by_forms_are_those_of_houses(self):
        """What [72] tells of a form is the greatest depth of the house of [71]."""
        chance = random.Random(71)
        endless = stuck = 0
        for _ in range(350):
            program = Program(some_functions(chance, 4, recursive=chance.random() < .3, kinds=((), ("x",), ("y", "x"))))
            for name in program.names():
                form = form_of(program, name)
                for _ in range(2):
                    context = some_context(chance, form.callbacks, {*program.frames(), *"z"[:chance.randint(0, 1)]})
                    house, sizes = house_in(program, name, context)
                    depth = None if is_endless(house) else greatest_depth(house, sizes)[0]
                    self.is_same(depth_in(form, context), depth, (program, name, context))
                    self.is_same(modelled_depth(form, context), depth)
                    endless += depth is None
                    stuck += any(not returns for returns, _ in context[0])
        self.assertGreater(min(endless, stuck), 60)


if __name__ == "__main__":
    unittest.main()
