import unittest

from nestdeep.bodies import body_form, either
from nestdeep.errors import InvalidForm
from nestdeep.forms import Form
from nestdeep.formtexts import form_text, read_form
from nestdeep.terms import in_order
from tests.helpers import BIG, ODD_VALUES, Case

G, H = ("g", ()), ("g", ("c", "t"))
START, END = ((), (), "now", ()), ((), (), "end", ())


def line(**counts):
    return tuple(sorted(counts.items()))


def now(shut=(), returned=(), **counts):
    return line(**counts), shut, "now", returned


def end(shut=(), returned=(), **counts):
    return line(**counts), shut, "end", returned


def at(tag, shut=(), returned=(), **counts):
    return line(**counts), shut, tag, returned


class Right(Case):
    def test_parts(self):
        terms = (START, now(("u",), ("c",), a=3), end(("u",), ("c",), a=2), at("c"))
        form = Form(("c", "d", G), (), terms)
        self.is_same((form.callbacks, form.endless, form.terms, form.returns), (("c", "d", G), (), terms, (("c",),)))
        self.is_same(len(form), 4)
        self.is_same(repr(form), f"Form({('c', 'd', G)!r}, (), {terms!r})")

    def test_defaults_and_names(self):
        form = Form(endless=((),))
        self.is_same((form.callbacks, form.endless, form.terms, form.returns, len(form)), ((), ((),), (), (), 0))
        self.is_same(repr(form), "Form((), ((),), ())")
        self.assertEqual(Form(terms=(START,), callbacks=("c",)), Form(("c",), (), (START,)))

    def test_start_can_be_covered(self):
        for terms in ((START,), (now(a=1),), (now(a=BIG), END)):
            self.is_same(Form((), (), terms).terms, terms)

    def test_forms_that_no_body_has(self):
        for terms in ((now(a=1), end(("u", "v"), b=9)), (START, now(("u",), a=2)), (now(a=1), end((), a=2), end(("u",), b=1))):
            self.is_same(Form((), (), terms).terms, terms)

    def test_returns(self):
        terms = (START, end(("u",), (), a=1), end((), ("c",), a=2), end((), ("c", "d"), a=3), at("c"), at("d"))
        self.is_same(Form(("c", "d"), (), terms).returns, ((),))
        terms = (START, end((), ("d",)), end((), ("c",), a=2), at("c"), at("d"))
        self.is_same(Form(("c", "d"), (), terms).returns, (("c",), ("d",)))
        self.is_same(Form((), (), (START,)).returns, ())

    def test_equality(self):
        base = (("c", "d"), (("c",),), (START, end(a=1), at("c"), at("d")))
        form = Form(*base)
        self.assertEqual(form, Form(*base))
        self.assertFalse(form != Form(*base))
        for other in (
            Form(("c",), (("c",),), (START, end(a=1), at("c"))), Form(("c", "d"), (), base[2]), Form(("c", "d"), (("d",),), base[2]),
            Form(("c", "d"), (("c",),), (START, end(a=2), at("c"), at("d"))), base, *ODD_VALUES,
        ):
            self.assertNotEqual(form, other)
            self.assertNotEqual(other, form)

    def test_len(self):
        self.is_same([len(body_form((("take", 1, "a"),))), len(body_form((("stop",),)))], [2, 1])


class Wrong(Case):
    def wrong(self, problem, value, *parts):
        self.fails(InvalidForm, {"problem": problem, "value": value}, Form, *parts)

    def test_callbacks(self):
        for value in ODD_VALUES:
            if not isinstance(value, tuple):
                self.wrong("callbacks", None, value, ((),), ())
                self.wrong("callbacks", value, ("b", value), ((),), ())
        for callbacks, value in (
            (("d", "c"), "c"), (("c", "c"), "c"), ((G, "c"), "c"), ((H, G), G), (("c", ("g", ["c"])), ("g", ["c"])),
            (("now",), "now"), ((("g", ("a", "b", "c")),), ("g", ("a", "b", "c"))), ((("g",),), ("g",)), (("c", "C", None), "C"),
            (tuple("abcdefghi"), "i"), (tuple("abcdefgha"), "a"), ((*"abcdefgh", 5), 5), ((("g", (True,)),), ("g", (True,))),
        ):
            self.wrong("callbacks", value, callbacks, None, None)
        for callbacks in (tuple("abcdefgh"), ("c", G, H), ("z", ("a", ()))):
            self.is_same(Form(callbacks, ((),), ()).callbacks, callbacks)

    def test_endless(self):
        for value in ODD_VALUES:
            if not isinstance(value, tuple):
                self.wrong("endless", None, ("c",), value, (START,))
                self.wrong("endless", value, ("c",), (value,), (START,))
        for endless, value in (
            ((("d",),), ("d",)), ((("c",), ("d", "c")), ("d", "c")), ((("c", "c"),), ("c", "c")), (((G, "c"),), (G, "c")),
            ((["c"],), ["c"]), (("c",), "c"),
        ):
            self.wrong("endless", value, ("c", G), endless, (START,))
        for endless in ((("c",), ("c", "d")), (("d",), ("c",)), (("c",), ("c",)), ((), ("c",)), (("c", "d"), ("e",))):
            self.wrong("endless", endless, ("c", "d", "e"), endless, (START, at("c"), at("d"), at("e")))
        self.wrong("endless", ("x",), ("c",), (("c",), ("c",), ("x",)), ())
        terms = (START, at("c"), at("d"), at("e"))
        self.is_same(Form(("c", "d", "e"), (("d",), ("c", "e")), terms).endless, (("d",), ("c", "e")))

    def test_terms(self):
        for value in ODD_VALUES:
            if not isinstance(value, tuple):
                self.wrong("terms", None, (), (), value)
            self.wrong("terms", value, (), (), (START, value))
        for value in (
            at("c"), now((), ("c",)), at(G), now((), ("d", "x")), [(), (), "now", ()], ((("a", True),), (), "now", ()),
            ((), ("v", "u"), "now", ()), ((), (), "later", ()), ((), (), "now", ("d", "d")), ((), (), "now", [])):
            self.wrong("terms", value, ("d", "e"), (), (START, value, at("x")))

    def test_order(self):
        for first, second in (
            (END, START), (START, START), (now(b=1), now(a=1)), (at("c"), END), (now(("u",), a=1), now((), a=1)),
            (now((), ("d",), a=1), now((), ("c",), a=1)), (at(G), at("d")), (now((), (G,)), now((), ("c",))),
        ):
            self.wrong("order", second, ("c", "d", G), (), (first, second))

    def test_least(self):
        self.wrong("least", now(a=1), (), (), (now(a=1), now(a=2)))
        self.wrong("least", now(a=1, b=1), (), (), (now(a=1, b=1), now(a=2), now(b=2)))
        self.wrong("least", end(("u",)), (), (), (START, END, end(("u",))))
        self.wrong("least", START, (), (), (START, now(a=1)))
        self.wrong("least", at("c", (), ("d",)), ("c", "d"), (), (START, at("c"), at("c", (), ("d",)), at("d")))
        self.wrong("least", now(a=1), (), (), (now(a=1), now(a=2), now(("u",), a=2)))
        lines = (now(a=1, b=2), now(a=2), now(b=2))
        self.wrong("least", now(b=2), (), (), lines)
        self.is_same(len(Form((), (), (now(a=1, b=2), now(a=2)))), 2)

    def test_under(self):
        terms = (now(a=1), now((), ("c",), a=2), end((), ("c", "d")), at("c"), at("d"))
        self.wrong("under", terms[1], ("c", "d"), (("c",),), terms)
        self.wrong("under", terms[2], ("c", "d"), (("c", "d"),), terms)
        self.wrong("under", START, (), ((),), (START,))

    def test_call(self):
        self.wrong("call", at("c", (), (), a=1), ("c",), (), (START, at("c", (), (), a=1)))
        self.wrong("call", at("d", (), ("c",), a=1), ("c", "d"), (), (START, at("c"), at("d", (), ("c",), a=1)))
        self.wrong("call", at("c"), ("c",), (), (now(("u",), a=1), at("c")))
        Form(("c",), (), (now(a=2, b=2), at("c", (), (), a=1, b=1)))

    def test_start(self):
        self.wrong("start", None, (), (), ())
        self.wrong("start", None)
        self.wrong("start", None, (), (), (END,))
        self.wrong("start", None, (), (), (now(("u",), a=5),))
        self.wrong("start", None, ("c",), (("c",),), ())

    def test_closed(self):
        self.wrong("closed", ("c",), ("c",), (("c",),), (START,))
        self.wrong("closed", ("c",), ("c",), (), (START, end((), ("c",))))
        self.wrong("closed", ("c", "d"), ("c", "d"), (("c", "d"),), (START, end(), at("c")))
        terms = (START, end((), ("c", "d")), at("c", (), ("d",)), at("d", (), ("c",)))
        self.wrong("closed", ("c", "d"), ("c", "d"), (), terms)
        terms = (START, end((), ("c", "d")), at("c", (), ("d",)), at("d"))
        self.is_same(Form(("c", "d"), (), terms).returns, (("c", "d"),))
        self.wrong("closed", ("d",), ("c", "d"), (), (START, now((), ("d",), a=1), at("c"), at("d", (), ("c",))))
        self.wrong("closed", ("e",), ("c", "d", "e"), (("d",), ("e",)), (START, now((), ("c",), a=1), at("d")))

    def test_two_problems(self):
        bad_order = (END, START)
        self.wrong("callbacks", "c", ("d", "c"), (("x",),), bad_order)
        self.wrong("endless", ("x",), ("c",), (("x",),), (None, *bad_order))
        self.wrong("terms", None, ("c",), (), (*bad_order, None))
        self.wrong("order", START, ("c",), (), (now(a=1), now(a=2), END, START))
        self.wrong("order", now(a=1), (), (), (now(a=2), now(a=1), START))
        self.wrong("least", now(a=1), ("c",), (("c",),), (now(a=1), now(a=2), end((), ("c",))))
        self.wrong("under", end((), ("c",)), ("c",), (("c",),), (START, end((), ("c",)), at("c", (), (), a=1)))
        self.wrong("call", at("c", (), (), a=1), ("c",), (("c",),), (now(("u",)), at("c", (), (), a=1)))
        self.wrong("start", None, ("c",), (("c",),), (now(("u",)),))
        self.wrong("closed", ("c",), ("c", "d"), (("c",),), (START, end((), ("d",))))
        self.wrong("least", now(a=1), (), (), (now(a=1), now(a=2), now(a=2, b=1), now(a=3, b=2)))


class Lines(Case):
    FORM = ("c", "d"), (("c", "d"),), tuple(in_order([
        now(a=2), now(("u",), a=1, b=3), now(("v",), b=2), now((), ("c",), b=5), end(("u",), (), a=1), at("c", (), (), a=1), at("d")]))

    def test_lines(self):
        form = Form(*self.FORM)
        self.gives((line(a=2),), form.lines, "now")
        self.gives((line(a=1, b=3), line(a=2)), form.lines, "now", shut=("u",))
        self.gives((line(a=1, b=3), line(a=2)), form.lines, "now", shut=("u", "v"))
        self.gives((line(a=2), line(b=2)), form.lines, "now", shut=("v",))
        self.gives((line(a=2), line(b=5)), form.lines, "now", returned=("c",))
        self.gives((line(a=2),), form.lines, "now", returned=("d",))
        self.gives(None, form.lines, "now", returned=("c", "d"))
        self.gives(None, form.lines, "x", returned=("c", "d", "e"))
        self.gives((), form.lines, "end")
        self.gives((line(a=1),), form.lines, "end", shut=("u", "w"))
        self.gives((line(a=1),), form.lines, "c")
        self.gives(((),), form.lines, "d")
        self.gives((), form.lines, "x")
        self.gives((), form.lines, G)
        self.gives(None, Form((), ((),), ()).lines, tag="now")

    def test_corners(self):
        form = Form((), (), (now(a=1, b=1), now(("u",), a=2), now(("u",), b=2)))
        self.gives((line(a=1, b=1),), form.lines, "now")
        self.gives((line(a=2), line(b=2)), form.lines, "now", shut=("u",))


class AtMost(Case):
    def at_most(self, one, other, wanted):
        self.gives(wanted, one.at_most, other)

    def test_terms(self):
        small, large = Form((), (), (now(a=1, b=1),)), Form((), (), (now(a=2), now(b=2)))
        self.at_most(small, large, True)
        self.at_most(large, small, False)
        self.at_most(small, small, True)
        self.at_most(Form((), (), (START,)), large, True)
        self.at_most(Form((), (), (START, END)), large, False)
        self.at_most(Form((), (), (START, end(("u",)))), Form((), (), (START, END)), True)
        self.at_most(Form((), (), (START, END)), Form((), (), (START, end(("u",)))), False)

    def test_endless(self):
        never = Form(("c",), (), (START, now((), ("c",), a=9), at("c")))
        ending = Form(("c",), (("c",),), (START, at("c")))
        always = Form(("c",), ((),), ())
        for one, other, wanted in (
            (never, ending, True), (ending, never, False), (ending, always, True), (always, ending, False), (never, always, True),
            (always, never, False), (always, always, True), (ending, ending, True),
        ):
            self.at_most(one, other, wanted)

    def test_both_ways_only_if_equal(self):
        bodies = [(("take", count, frame), *last) for count in (1, 2) for frame in "ab" for last in ((), (("do", "c"),), (("stop",),))]
        forms = [either(body_form(body), body_form((("do", "c"), ("stop",)))) for body in bodies]
        for one in forms:
            for other in forms:
                self.is_same(one.at_most(other) and other.at_most(one), one == other)
                self.is_same(one.at_most(either(one, other)), True)

    def test_no_form_with_these_callbacks(self):
        form = Form(("c",), (), (START, at("c")))
        for other in (*ODD_VALUES, Form((), (), (START,)), Form(("d",), (), (START, at("d"))), Form(("c", "d"), ((),), ())):
            self.fails_with_form(form, other)
        self.gives(True, form.at_most, other=form)

    def fails_with_form(self, form, other):
        with self.assertRaises(InvalidForm) as caught:
            form.at_most(other)
        self.is_same(caught.exception.problem, "callbacks")
        self.assertIs(caught.exception.value, other)


class Shows(Case):
    def test_shows(self):
        form = Form(("c", "d"), (("c", "d"),), (now(a=2), now(b=2), end((), ("c",)), at("c"), at("d")))
        for term in (*form.terms, START, now(("u", "v"), ("d",), a=1, b=1), end(("u",), ("c",)), now((), ("c", "d"), z=BIG), at("d", ("u",), ("c",)),
                     end((), ("c", "d"), a=4)):
            self.gives(True, form.shows, term)
        for term in (now(a=3), now(a=1, b=2), END, end((), ("d",)), end((), ("c",), a=1), now(z=1), at("c", (), (), a=1), at("x"),
                     now((), ("x",)), at(G), now((), ("c", "d", "x"))):
            self.gives(False, form.shows, term)

    def test_any_value(self):
        form = Form((), ((),), ())
        for value in (*ODD_VALUES, [(), (), "now", ()], ((), (), "now", []), ((("a", True),), (), "now", ())):
            self.assertIs(form.shows(value), False)
        self.gives(True, form.shows, START)
        self.gives(False, form.shows, at("c"))
        self.gives(True, form.shows, value=now(z=BIG))


class Nothing(Case):
    def test_no_state_is_shared(self):
        form = body_form((("do", "c"), ("take", 1, "a")))
        text = form_text(form)
        other = either(form, form)
        self.assertEqual(other, form)
        self.is_same(form_text(form), text)
        self.assertEqual(read_form(text), form)


if __name__ == "__main__":
    unittest.main()
