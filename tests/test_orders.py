import random
import unittest

from nestdeep.bodies import either
from nestdeep.contexts import depth_in
from nestdeep.errors import InvalidForm
from nestdeep.forming import form_of
from nestdeep.forms import Form
from nestdeep.house import House
from nestdeep.nests import greatest_depth, is_endless
from nestdeep.orders import is_order_paper, never_deeper, order_paper
from nestdeep.parting import difference, is_parting_context
from nestdeep.programs import Program
from tests.contexts import frames_of, is_deeper, modelled_depth, some_context, some_forms, some_pair
from tests.helpers import ODD_VALUES, Case
from tests.odd import at, odd_values, oddly_spoilt, parts, put
from tests.papers import helping, mixes, right_fraction

A, B, STOP, DO_C, DO_D = ("take", 1, "a"), ("take", 1, "b"), ("stop",), ("do", "c"), ("do", "d")
START, END = ((), (), "now", ()), ((), (), "end", ())


def shut(*names):
    return ("shut", names)


def form(*body, params=("c", "d")):
    return form_of(Program([("f", params, body)]), "f")


def is_number(value, rows):
    return type(value) is int and 0 <= value < len(rows)


def right_paper(one, other, paper):
    """Whether this is a paper that the one is never deeper, word for word as the document has it."""
    if type(paper) is not tuple or len(paper) != 3 or any(type(part) is not tuple for part in paper):
        return False
    ends, rest = [term for term in one.terms if term[2] == "end"], [term for term in one.terms if term[2] != "end"]
    if [len(part) for part in paper] != [len(one.endless), len(ends), len(rest)]:
        return False
    if not all(is_number(number, other.endless) and set(other.endless[number]) <= set(callbacks) for callbacks, number in zip(one.endless, paper[0])):
        return False
    for term, told in zip([*ends, *rest], [*paper[1], *paper[2]]):
        if type(told) is not tuple or len(told) != 2 or type(told[0]) is not str:
            return False
        word, value = told
        if word == "endless":
            right = is_number(value, other.endless) and set(other.endless[value]) <= set(term[3])
        elif word == "end" and term[2] == "end":
            right = is_number(value, other.terms) and other.terms[value][2] == "end" and set(other.terms[value][3]) <= set(term[3])
        elif word == "mix" and term[2] != "end" and type(value) is tuple and all(type(pair) is tuple and len(pair) == 2 for pair in value):
            right = all(is_number(number, other.terms) and right_fraction(weight, 1) for number, weight in value)
            right = right and [number for number, _ in value] == sorted({number for number, _ in value})
            right = right and all(other.terms[number] in helping(term, list(other.terms)) for number, _ in value)
            right = right and mixes(term[0], [other.terms[number][0] for number, _ in value], [weight for _, weight in value])
        else:
            right = False
        if not right:
            return False
    return True


class Orders(Case):
    def ordered(self, wanted, one, other):
        self.gives(wanted, never_deeper, one, other)
        holds, paper = order_paper(one, other)
        self.gives((holds, paper), order_paper, one, other)
        self.is_same(holds, wanted)
        self.gives(True, is_order_paper, one, other, holds, paper)
        self.gives(False, is_order_paper, one, other, not holds, paper)
        if holds:
            self.assertTrue(right_paper(one, other, paper))
        else:
            self.assertTrue(is_deeper(modelled_depth(one, paper), modelled_depth(other, paper)))
        return paper

    def test_equal_forms(self):
        for body in ((), (STOP,), (DO_C, A, B), (("loop", None, (DO_C, A)), DO_D), (("loop", None, (A,)),)):
            self.ordered(True, form(*body), form(*body))
        self.is_same(self.ordered(True, form(("loop", None, (A,))), form(("loop", None, (A,)))), ((0,), (), ()))
        self.is_same(self.ordered(True, form(), form()), ((), (("end", 1),), (("mix", ((0, (1, 1)),)),)))

    def test_both_ways(self):
        for less, more in (
            ((), (A,)), ((A,), (A, A)), ((STOP,), ()), ((DO_C, STOP), (DO_C,)), ((shut("u"), A), (A,)), ((shut("u", "v"), A), (shut("u"), A)),
            ((DO_C,), (A, DO_C)), ((DO_C, DO_D), (("either", (DO_C, DO_D), (DO_D, DO_C)),)), ((A, ("take", 3, "b")), (("either", (("take", 4, "a"),), (A, ("take", 3, "b"))),)),
            ((DO_C, A), (("loop", None, (DO_C, A)),)), ((("loop", None, (DO_C, DO_D, A)),), (("loop", None, (DO_C, A)),)), ((DO_C, A, DO_D), (("loop", None, (A,)),)),
            ((DO_C, DO_D, ("take", 9, "z")), (("either", (DO_D, ("take", 9, "z")), (DO_C,)),)), ((A, DO_C), (("either", (A,), ()), ("either", (), (DO_C,)))),
        ):
            self.ordered(True, form(*less), form(*more))
            self.ordered(False, form(*more), form(*less))
        self.ordered(True, form(A), form(A, A))
        self.ordered(False, form(A, A), form(A))
        self.ordered(True, form(("take", 9, "a")), form(("loop", None, (A,))))

    def test_neither_way(self):
        for one, other in (((A,), (B,)), ((A,), (A, A, STOP)), ((DO_C,), (DO_D,)), ((shut("u"), A), (shut("v"), A)), ((A, DO_C), (DO_C, A, A)),
                           ((("loop", None, (DO_C, A)),), (("loop", None, (DO_D, A)),)), ((A, STOP), ()), ((("loop", None, (DO_C, A)), STOP), (DO_D,))):
            self.ordered(False, form(*one), form(*other))
            self.ordered(False, form(*other), form(*one))

    def test_what_an_endless_set_outdoes(self):
        # Where c returns the other one is endless; nothing that the one has then shows.
        other = form(DO_C, ("loop", None, (A,)))
        one = form(DO_C, ("take", 9, "b"), DO_D)
        paper = self.ordered(True, one, other)
        self.is_same(paper, ((), (("endless", 0),), (("mix", ((0, (1, 1)),)), ("endless", 0), ("mix", ((1, (1, 1)),)), ("endless", 0))))
        self.ordered(False, form(("take", 9, "b"), DO_C), other)
        self.ordered(False, form(DO_D, STOP), other)

    def test_ends_that_others_return_without(self):
        one, other = Form(("c",), (), (START, ((), (), "end", ("c",)), ((), (), "c", ()))), Form(("c",), (), (START, END, ((), (), "c", ())))
        self.is_same(self.ordered(True, one, other), ((), (("end", 1),), (("mix", ((0, (1, 1)),)), ("mix", ((2, (1, 1)),)))))
        self.ordered(False, other, one)

    def test_mixes(self):
        lines = [(("a", 2),), (("b", 2),), (("a", 1), ("b", 1))]
        twice_a, twice_b, each = [Form((), (), ((line, (), "now", ()), END)) for line in lines]
        both = either(twice_a, twice_b)
        paper = self.ordered(True, each, both)
        numbers = [both.terms.index((line, (), "now", ())) for line in lines[:2]]
        self.is_same(paper, ((), (("end", both.terms.index(END)),), (("mix", tuple(sorted((number, (1, 2)) for number in numbers))),)))
        self.ordered(False, both, each)
        self.ordered(True, twice_a, both)
        self.ordered(False, each, twice_a)
        self.is_same([never_deeper(each, both), difference(each, twice_a)], [True, (0, "term", (lines[2], (), "now", ()))])

    def test_either_is_the_least_that_both_are_below(self):
        chance = random.Random(75)
        for forms in some_forms(chance, 60).values():
            for _ in range(120):
                one, other = some_pair(chance, forms)
                both = either(one, other)
                self.ordered(True, one, both)
                self.ordered(True, other, both)
                third = chance.choice(forms)
                self.assertEqual(never_deeper(one, third) and never_deeper(other, third), never_deeper(both, third))

    def test_some_forms(self):
        chance = random.Random(76)
        counts = {True: 0, False: 0}
        for forms in some_forms(chance, 220).values():
            for _ in range(450):
                one, other = some_pair(chance, forms)
                wanted = one.at_most(other)
                self.ordered(wanted, one, other)
                counts[wanted] += 1
                context = some_context(chance, one.callbacks, frames_of(one, other))
                deeper = is_deeper(depth_in(one, context), depth_in(other, context))
                self.assertFalse(wanted and deeper, (one, other, context))
                self.is_same(is_order_paper(one, other, False, context), deeper)
                if never_deeper(one, other) and never_deeper(other, one):
                    self.assertEqual(one, other)
        self.assertGreater(min(counts.values()), 300, counts)

    def test_in_the_place_of_another_function(self):
        """What is never deeper makes no house deeper."""
        chance = random.Random(77)
        count = 0
        bodies = [(A, DO_C), (DO_C, A), (shut("u"), A, DO_C), (A, DO_C, STOP), (("either", (A,), (B,)), DO_C), (("loop", 2, (A,)), DO_C), (A, A, DO_C), (A, B, DO_C), (DO_C,), (STOP,)]
        for one in bodies:
            for other in bodies:
                holds = never_deeper(form(*one, params=("c",)), form(*other, params=("c",)))
                deeper = False
                for _ in range(6):
                    sizes, back = {"a": chance.randint(1, 5), "b": chance.randint(1, 5), "e": 1}, chance.choice([(), (STOP,)])
                    depths = []
                    for body in (one, other):
                        rows = [("f", ("c",), body), ("main", (), (("call", "f", ("g",)), ("take", 3, "e"))), ("g", (), (("take", 2, "e"), *back)), ("tick", (), (("take", 4, "e"),))]
                        house = House(Program([*rows, ("all", (), (A, B))]), "main", {"u": ("tick", 2, ())})
                        depths.append(None if is_endless(house) else greatest_depth(house, sizes)[0])
                    deeper = deeper or is_deeper(*depths)
                self.assertFalse(holds and deeper, (one, other))
                count += holds
        self.assertGreater(count, 15)


class Papers(Case):
    def test_spoilt_papers(self):
        one = form(DO_C, ("either", (A,), (("take", 3, "b"),)), ("either", (DO_D, ("loop", None, (DO_C, DO_D, A))), ()))
        other = either(one, form(("either", (("take", 3, "a"),), (("take", 4, "b"),)), DO_C))
        holds, paper = order_paper(one, other)
        self.is_same((holds, right_paper(one, other, paper)), (True, True))
        self.assertEqual([len(part) > 0 for part in paper], [True, True, True])
        for path in parts(paper):
            found = at(paper, path)
            news = [None, (), [], 0, True, "mix", "end", "endless", (0, (1, 1)), ((0, (1, 1)),), -1, 99, ("end", 0), ("endless", 0), ("mix", ())]
            if isinstance(found, tuple):
                news += [list(found), found[:-1], (*found, None), found + found[-1:], found[::-1]]
            if isinstance(found, int):
                news += [found + 1, found - 1, True, -found]
            for new in news:
                wrong = put(paper, path, new)
                self.is_same(is_order_paper(one, other, True, wrong), right_paper(one, other, wrong), wrong)
        for wrong in [*ODD_VALUES, *odd_values(), *oddly_spoilt(paper)]:
            self.assertIs(is_order_paper(one, other, True, wrong), False)
        for path in parts(paper):
            if path:
                self.assertIs(is_order_paper(one, other, True, put(paper, path, list(at(paper, path)) if isinstance(at(paper, path), tuple) else None)), False)

    def test_weights(self):
        lines = [(("a", 2),), (("b", 2),), (("a", 1), ("b", 1))]
        each = Form((), (), ((lines[2], (), "now", ()), END))
        both = Form((), (), ((lines[0], (), "now", ()), (lines[1], (), "now", ()), END))
        for mix, wanted in (
            (((0, (1, 2)), (1, (1, 2))), True), (((1, (1, 2)), (0, (1, 2))), False), (((0, (2, 4)), (1, (1, 2))), False), (((0, (1, 1)),), False), (((0, (1, 2)), (1, (1, 3))), False),
            (((0, (1, 2)), (1, (2, 3))), False), (((0, (1, 3)), (1, (2, 3))), False), (((0, (1, 2)), (1, (1, 2)), (2, (0, 1))), False), (((0, (1, 2)), (0, (1, 2))), False),
            (((0, (1, 2)), (1, (1, 2)), (1, (0, 1))), False), (((0, (1, 2)), (3, (1, 2))), False), (((False, (1, 2)), (True, (1, 2))), False), (((0, [1, 2]), (1, (1, 2))), False),
            (((0, (1, 2)), (1, (1, 4)), (1, (1, 4))), False), (((0, (1, 4)), (0, (1, 4)), (1, (1, 2))), False), ([(0, (1, 2)), (1, (1, 2))], False), (((0, (3, 2)), (1, (-1, 2))), False), ((), False), (((0, (1, 2)), (2, (1, 2))), False), (((0, (1, 2), 0), (1, (1, 2))), False),
        ):
            self.gives(wanted, is_order_paper, each, both, True, ((), (("end", 2),), (("mix", mix),)))
        for ends in ((("end", 0),), (("end", 1),), (("end", 3),), (("end", True),), (("endless", 0),), ("end", 2), (), (("end", 2), ("end", 2)), [("end", 2)], (["end", 2],), (("mix", 2),)):
            self.gives(False, is_order_paper, each, both, True, ((), ends, (("mix", ((0, (1, 2)), (1, (1, 2)))),)))
        for terms in ((("end", 2),), (), (("endless", 0),), (("mix", 0),), ("mix", ((0, (1, 2)), (1, (1, 2))))):
            self.gives(False, is_order_paper, each, both, True, ((), (("end", 2),), terms))

    def test_weights_of_nothing(self):
        # A term that has no part in the mix is not told.
        lines = [(("a", 2),), (("b", 2),), (("c", 2),)]
        three = Form((), (), (*((line, (), "now", ()) for line in lines), END))
        for line, mix in (((("a", 1), ("b", 1)), ((0, (1, 2)), (1, (1, 2)))), ((("a", 1), ("c", 1)), ((0, (1, 2)), (2, (1, 2)))), ((("b", 2),), ((1, (1, 1)),))):
            one = Form((), (), ((line, (), "now", ()), END))
            self.is_same(order_paper(one, three), (True, ((), (("end", 3),), (("mix", mix),))))
            self.gives(True, is_order_paper, one, three, True, order_paper(one, three)[1])
            for number in range(3):
                wrong = tuple(sorted({**{at: (0, 1) for at in (number,)}, **dict(mix)}.items()))
                self.gives(wrong == mix, is_order_paper, one, three, True, ((), (("end", 3),), (("mix", wrong),)))
        one = Form((), (), (((("a", 1), ("b", 1), ("c", 0 + 1)), (), "now", ()), END))
        self.is_same(order_paper(one, three)[0], False)
        for mix, wanted in ((((0, (1, 2)), (1, (1, 4)), (2, (1, 4))), True), (((0, (1, 2)), (2, (1, 4)), (1, (1, 4))), False), (((1, (1, 4)), (0, (1, 2)), (2, (1, 4))), False)):
            less = Form((), (), (((("a", 1),), (), "now", ()), END))
            self.gives(wanted, is_order_paper, less, three, True, ((), (("end", 3),), (("mix", mix),)))

    def test_numbers_of_ends(self):
        one, other = form(("either", (DO_C,), (DO_D,))), form(("either", (DO_D,), (DO_C,)))
        holds, paper = order_paper(one, other)
        ends = [number for number, term in enumerate(other.terms) if term[2] == "end"]
        self.is_same((holds, paper[1]), (True, (("end", ends[0]), ("end", ends[1]))))
        for first in range(len(other.terms)):
            for second in range(len(other.terms)):
                told = (paper[0], (("end", first), ("end", second)), paper[2])
                self.gives([first, second] == ends, is_order_paper, one, other, True, told)

    def test_helpers_must_help(self):
        one = form(("either", (shut("u"), A, DO_C), ()), params=("c",))
        other = form(("either", (shut("v"), A, DO_C), (shut("u"), A, DO_C)), params=("c",))
        holds, paper = order_paper(one, other)
        self.is_same(holds, False)
        wide = either(one, other)
        holds, paper = order_paper(one, wide)
        self.is_same(holds, True)
        for number, told in enumerate(paper[2]):
            for chosen in range(len(wide.terms)):
                wrong = put(paper, (2, number), ("mix", ((chosen, (1, 1)),)))
                self.is_same(is_order_paper(one, wide, True, wrong), right_paper(one, wide, wrong))

    def test_numbers_of_endless_sets(self):
        one = form(("either", (("loop", None, (DO_C, DO_D, A)),), ()), DO_C, DO_D, B)
        other = form(("either", (("loop", None, (DO_C, A)),), (("loop", None, (DO_D, A)),)))
        self.is_same((one.endless, other.endless), ((("c", "d"),), (("c",), ("d",))))
        holds, paper = order_paper(one, either(one, other))
        self.is_same(holds, True)
        for number in (0, 1):
            self.gives(True, is_order_paper, one, either(one, other), True, ((number,), *paper[1:]))
        for number in (2, -1, True, False, None, (0,), "0"):
            self.gives(False, is_order_paper, one, either(one, other), True, ((number,), *paper[1:]))
        single = form(("loop", None, (DO_C, A)))
        self.gives(False, is_order_paper, single, either(single, other), True, ((1,), *order_paper(single, either(single, other))[1][1:]))

    def test_contexts(self):
        one, other = form(A, DO_C), form(B, DO_C)
        deeper = (((False, 0), (False, 0)), (), (("a", 2), ("b", 1)), 0)
        self.gives(True, is_order_paper, one, other, False, deeper)
        self.gives(False, is_order_paper, other, one, False, deeper)
        self.gives(True, is_parting_context, other, one, deeper)
        self.gives(False, is_order_paper, one, other, True, deeper)
        for wrong in ((*deeper[:2], (("a", 2),), 0), (*deeper[:2], (("a", 2), ("b", 2)), 0), (*deeper[:2], (("b", 1), ("a", 2)), 0), deeper[:3], list(deeper), (deeper[0][:1], *deeper[1:])):
            self.gives(False, is_order_paper, one, other, False, wrong)
        for wrong in [*ODD_VALUES, *odd_values(), *oddly_spoilt(deeper)]:
            self.assertIs(is_order_paper(one, other, False, wrong), False)
        endless = form(("loop", None, (DO_C, A)))
        self.gives(True, is_order_paper, endless, other, False, (((True, 0), (False, 0)), (), (("a", 1), ("b", 9)), 0))
        self.gives(False, is_order_paper, other, endless, False, (((True, 0), (False, 0)), (), (("a", 1), ("b", 9)), 0))
        self.gives(False, is_order_paper, endless, endless, False, (((True, 0), (False, 0)), (), (("a", 1),), 0))

    def test_errors(self):
        plain, c = form(A, params=()), form(A, DO_C, params=("c",))
        wrong_forms = [Form((("g", ()),), (), (START, END)), Form((), (), (((("a", 1),), (), "now", ()), ((("a", 1),), (), "end", ()))), *odd_values(), *ODD_VALUES]
        for action in (never_deeper, order_paper, lambda one, other: is_order_paper(one, other, True, None), lambda one, other: is_order_paper(one, other, False, None)):
            for wrong in wrong_forms:
                for args in ((wrong, plain), (plain, wrong), (c, wrong), (wrong, None)):
                    with self.assertRaises(InvalidForm) as caught:
                        action(*args)
                    self.assertEqual(caught.exception.problem, "function")
                    self.assertIs(caught.exception.value, wrong)
            self.fails(InvalidForm, {"problem": "callbacks", "value": c}, action, plain, c)
            self.fails(InvalidForm, {"problem": "callbacks", "value": plain}, action, c, plain)
        holds, paper = order_paper(one=plain, other=plain)
        self.gives(True, is_order_paper, one=plain, other=plain, holds=holds, value=paper)
        self.gives(True, never_deeper, one=plain, other=plain)


if __name__ == "__main__":
    unittest.main()
