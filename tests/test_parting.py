import random
import unittest

from nestdeep.contexts import depth_in, is_context
from nestdeep.errors import InvalidForm
from nestdeep.forming import form_of
from nestdeep.forms import Form
from nestdeep.parting import difference, is_parting_context, parting
from nestdeep.programs import Program
from nestdeep.terms import in_order, is_covered_term
from tests.contexts import frames_of, is_deeper, modelled_depth, some_context, some_forms, some_pair
from tests.helpers import ODD_VALUES, Case
from tests.odd import odd_values, oddly_spoilt

A, B, STOP, DO_C, DO_D = ("take", 1, "a"), ("take", 1, "b"), ("stop",), ("do", "c"), ("do", "d")
START, END = ((), (), "now", ()), ((), (), "end", ())


def shut(*names):
    return ("shut", names)


def form(*body, params=("c", "d")):
    return form_of(Program([("f", params, body)]), "f")


def modelled_difference(one, other):
    """The difference, word for word as the document has it."""
    pair = (one, other)
    for word in ("endless", "returns", "term"):
        found = []
        for deeper in (0, 1):
            this, that = pair[deeper], pair[1 - deeper]
            if word == "endless":
                values = [callbacks for callbacks in this.endless if not any(set(less) <= set(callbacks) for less in that.endless)]
            elif word == "returns":
                values = [term[3] for term in this.terms if term[2] == "end" and not any(
                    end[2] == "end" and set(end[3]) <= set(term[3]) for end in that.terms)]
            else:
                values = [term for term in this.terms if term[2] != "end" and not is_covered_term(term, list(that.terms))]
            found.extend((value, deeper) for value in values)
        if found and word == "term":
            value = in_order([value for value, _ in found])[0]
        elif found:
            value = min((value for value, _ in found), key=lambda callbacks: (len(callbacks), callbacks))
        if found:
            return (min(deeper for other, deeper in found if other == value), word, value)
    return None


class Differences(Case):
    def differ(self, wanted, one, other):
        self.gives(wanted, difference, one, other)
        self.is_same(modelled_difference(one, other), wanted)
        context = parting(one, other)
        if wanted is None:
            self.assertIsNone(context)
            return
        self.gives(context, parting, one, other)
        self.gives(True, is_context, one.callbacks, context)
        self.gives(True, is_parting_context, one, other, context)
        depths = [depth_in(which, context) for which in (one, other)]
        self.assertTrue(is_deeper(depths[wanted[0]], depths[1 - wanted[0]]))
        self.is_same(depths, [modelled_depth(which, context) for which in (one, other)])

    def test_equal_forms(self):
        for body in ((), (STOP,), (DO_C, A), (("loop", None, (A,)),), (("loop", None, (DO_C, A)), DO_D)):
            self.differ(None, form(*body), form(*body))
        self.differ(None, form(A, DO_C), form(("either", (A, DO_C), (DO_C,)), ("room", ()), ("either", (), (STOP,))))

    def test_endless(self):
        c, d, both = form(("loop", None, (DO_C, A))), form(("loop", None, (DO_D, A))), form(("loop", None, (DO_C, DO_D, A)))
        plain, always = form(A, DO_C, DO_D), form(("loop", None, (A,)))
        self.differ((0, "endless", ("c",)), c, d)
        self.differ((1, "endless", ("c",)), d, c)
        self.differ((0, "endless", ("c",)), c, both)
        self.differ((1, "endless", ("d",)), both, d)
        self.differ((0, "endless", ("c", "d")), both, plain)
        self.differ((1, "endless", ()), plain, always)
        self.differ((0, "endless", ()), always, c)
        either_one = form(("either", (("loop", None, (DO_C, A)),), (("loop", None, (DO_D, A)),)))
        self.differ((0, "endless", ("d",)), either_one, c)
        self.differ((0, "endless", ("c",)), either_one, d)

    def test_returns(self):
        c, d, both, never, always = form(DO_C), form(DO_D), form(DO_C, DO_D), form(STOP), form()
        self.differ((0, "returns", ("c",)), c, d)
        self.differ((1, "returns", ("c",)), d, c)
        self.differ((0, "returns", ("c",)), c, both)
        self.differ((1, "returns", ("d",)), both, d)
        self.differ((0, "returns", ("c", "d")), both, never)
        self.differ((1, "returns", ()), never, always)
        self.differ((1, "returns", ()), c, always)
        # What the one has deeper matters only if both return alike.
        self.differ((1, "returns", ()), form(("take", 99, "a"), STOP), always)
        self.differ((0, "endless", ("c",)), form(("loop", None, (DO_C, A)), STOP), always)

    def test_terms(self):
        self.differ((0, "term", ((("a", 2),), (), "now", ())), form(A, A), form(A))
        self.differ((1, "term", ((("a", 2),), (), "now", ())), form(A), form(A, A))
        self.differ((0, "term", ((("a", 1),), (), "now", ())), form(A), form(B))
        self.differ((1, "term", ((("a", 1),), (), "now", ())), form(B), form(A))
        self.differ((0, "term", ((("a", 1),), (), "now", ())), form(A, DO_C), form(shut("u"), A, DO_C))
        self.differ((1, "term", ((("a", 1),), ("u",), "now", ())), form(shut("u", "v"), A), form(shut("u"), A))
        self.differ((0, "term", ((("a", 1),), (), "now", ())), form(A, DO_C), form(DO_C, A))
        self.differ((0, "term", ((), (), "c", ())), form(DO_C, STOP), form(STOP))
        self.differ((0, "term", ((), (), "c", ())), form(("room", (DO_C, STOP))), form(DO_D, STOP))
        self.differ((1, "term", ((), (), "c", ())), form(("either", (DO_D, STOP), ())), form(("either", (DO_C, STOP), ())))
        self.differ((0, "term", ((("a", 1),), (), "c", ())), form(A, ("either", (DO_C,), ())), form(("either", (A,), (DO_C,))))
        self.differ((0, "term", ((), (), "c", ("d",))), form(("either", (DO_D, DO_C), ())), form(("either", (DO_D,), ())))

    def test_mixes(self):
        end = ((), (), "end", ())
        lines = [(("a", 2),), (("b", 2),), (("a", 1), ("b", 1)), (("a", 1), ("b", 2))]
        twice_a, twice_b, each, more = [Form((), (), ((line, (), "now", ()), end)) for line in lines]
        both = Form((), (), ((lines[0], (), "now", ()), (lines[1], (), "now", ()), end))
        self.differ((0, "term", (lines[2], (), "now", ())), each, twice_a)
        self.differ((1, "term", (lines[0], (), "now", ())), each, both)
        self.differ((0, "term", (lines[3], (), "now", ())), more, both)
        self.differ((1, "term", (lines[3], (), "now", ())), both, more)
        self.differ((0, "term", (lines[3], (), "now", ())), more, twice_b)
        self.gives(True, is_parting_context, each, twice_a, ((), (), (("a", 1), ("b", 3)), 0))
        self.gives(False, is_parting_context, each, both, ((), (), (("a", 2), ("b", 2)), 0))
        self.gives(True, is_parting_context, each, both, ((), (), (("a", 2), ("b", 3)), 0))

    def test_terms_that_other_shuts_hide(self):
        deep = form(("either", (A, DO_C), (shut("u"), ("take", 9, "a"), DO_C)), ("either", (shut("v"), ("take", 5, "b"), DO_D), (DO_D,)))
        self.differ((0, "term", ((("a", 1),), (), "now", ())), deep, form(("either", (DO_C,), (shut("u"), ("take", 9, "a"), DO_C)), ("either", (shut("v"), ("take", 5, "b"), DO_D), (DO_D,))))

    def test_five_interrupts(self):
        one = form(shut("s", "t", "u", "v", "w"), ("take", 7, "a"), DO_C)
        other = form(shut("s", "t", "u", "v", "w"), ("take", 6, "a"), DO_C)
        opened = form(shut("s", "t", "u", "v"), ("take", 5, "a"), shut("w"), ("take", 1, "a"), DO_C)
        self.differ((0, "term", ((("a", 7),), ("s", "t", "u", "v", "w"), "now", ())), one, other)
        self.differ((1, "term", ((("a", 5),), ("s", "t", "u", "v"), "now", ())), one, opened)
        self.differ((1, "term", ((("a", 5),), ("s", "t", "u", "v"), "now", ())), other, opened)

    def test_some_forms(self):
        """Two forms differ exactly if a context parts them; in it the deeper one is deeper."""
        chance = random.Random(73)
        words = {}
        for forms in some_forms(chance, 220).values():
            for _ in range(500):
                one, other = some_pair(chance, forms)
                found = difference(one, other)
                self.differ(modelled_difference(one, other), one, other)
                self.assertEqual(found is None, one == other)
                words[found and found[1]] = words.get(found and found[1], 0) + 1
                context = some_context(chance, one.callbacks, frames_of(one, other))
                self.is_same(is_parting_context(one, other, context), modelled_depth(one, context) != modelled_depth(other, context))
                if found is None:
                    self.assertIs(is_parting_context(one, other, context), False)
        self.assertGreater(min(words.values()), 50, words)


class Errors(Case):
    def test_forms_that_are_none(self):
        plain, c = form(A, params=()), form(A, DO_C, params=("c",))
        instance = Form((("g", ()),), (), (START, END))
        taken = Form((), (), (((("a", 1),), (), "now", ()), ((("a", 1),), (), "end", ())))
        closed = Form(("c",), (), (START, ((), ("u",), "end", ())))
        for action in (difference, parting, lambda one, other: is_parting_context(one, other, None)):
            for wrong in (instance, taken, closed):
                self.fails(InvalidForm, {"problem": "function", "value": wrong}, action, wrong, plain)
                self.fails(InvalidForm, {"problem": "function", "value": wrong}, action, plain, wrong)
                self.fails(InvalidForm, {"problem": "function", "value": wrong}, action, c, wrong)
                for other in (instance, taken, closed, plain):
                    self.fails(InvalidForm, {"problem": "function", "value": wrong}, action, wrong, other)
            self.fails(InvalidForm, {"problem": "callbacks", "value": c}, action, plain, c)
            self.fails(InvalidForm, {"problem": "callbacks", "value": plain}, action, c, plain)
            for value in (*ODD_VALUES, *odd_values()):
                for args in ((value, plain), (plain, value), (value, instance)):
                    with self.assertRaises(InvalidForm) as caught:
                        action(*args)
                    self.assertEqual(caught.exception.problem, "function")
                    self.assertIs(caught.exception.value, value)

    def test_contexts(self):
        one, other = form(A, DO_C), form(B, DO_C)
        right = (((False, 0), (False, 0)), (), (("a", 1), ("b", 2)), 0)
        self.gives(True, is_parting_context, one=one, other=other, value=right)
        self.gives(False, is_parting_context, one, other, (*right[:2], (("a", 2), ("b", 2)), 0))
        for wrong in ((*right[:2], (("a", 1),), 0), (*right[:2], (("b", 2),), 0), (*right[:2], (("b", 2), ("a", 1)), 0), (right[0][:1], *right[1:]), list(right), right[:3], (*right[:3], True)):
            self.gives(False, is_parting_context, one, other, wrong)
            self.gives(False, is_parting_context, other, one, wrong)
        for wrong in [*ODD_VALUES, *odd_values(), *oddly_spoilt(right)]:
            self.assertIs(is_parting_context(one, other, wrong), False)
        self.gives(difference(one, other), difference, one=one, other=other)
        self.gives(parting(one, other), parting, one=one, other=other)


if __name__ == "__main__":
    unittest.main()
