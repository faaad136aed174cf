import random
import unittest

from nestdeep.bodies import either
from nestdeep.claims import claim_fault, claim_of
from nestdeep.errors import TooMany, UnknownFunction
from nestdeep.forming import form_of
from nestdeep.forms import Form
from nestdeep.formtexts import read_form
from nestdeep.instances import instance_form, needed
from nestdeep.lines import line_sum
from nestdeep.programs import Program
from nestdeep.terms import in_order, least_sets
from tests.helpers import ODD_VALUES, Case
from tests.programs import some_functions

A, B, U, STOP = ("take", 1, "a"), ("take", 1, "b"), ("shut", ("u",)), ("stop",)
DO_C, DO_D = ("do", "c"), ("do", "d")
START, END = ((), (), "now", ()), ((), (), "end", ())


def call(name, *args):
    return ("call", name, args)


def replaced(claim, callbacks):
    """All sets that result from a set of callbacks."""
    sets = {()}
    for callback in callbacks:
        backs = [(callback,)] if isinstance(callback, str) else [term[3] for term in claim[callback].terms if term[2] == "end"]
        sets = {tuple(sorted({*one, *back})) for one in sets for back in backs}
    return sets


def putting(claim, form):
    """The endless sets and the terms that result when a claim is put into the body form of an instance."""
    endless = {one for callbacks in form.endless for one in replaced(claim, callbacks)}
    terms = set()
    for line, shut, tag, returned in form.terms:
        for back in replaced(claim, returned):
            if isinstance(tag, str):
                terms.add((line, shut, tag, back))
                continue
            endless |= {tuple(sorted({*back, *one})) for one in claim[tag].endless}
            for more, closed, other, came in claim[tag].terms:
                if other != "end":
                    terms.add((line_sum([line, more]), tuple(sorted({*shut, *closed})), other, tuple(sorted({*back, *came}))))
    return sorted(endless, key=lambda one: (len(one), one)), in_order(list(terms))


def fault_of(program, name, claim):
    """The fault of a claim whose keys and Forms are right."""
    for instance in needed(program, name):
        endless, terms = putting(claim, instance_form(program, name, instance))
        for one in endless:
            if not any(set(other) <= set(one) for other in claim[instance].endless):
                return ("endless", instance, one)
        for term in terms:
            if not claim[instance].shows(term):
                return ("term", instance, term)
    return None


class Right(Case):
    def test_claim_of(self):
        program = Program([("f", ("c",), (A, call("g", "c"), call("t"))), ("g", ("d",), (DO_D, B)), ("t", (), (U,))])
        claim = claim_of(program, "f")
        self.is_same(sorted(claim), [("f", ("c",)), ("g", ("c",)), ("t", ())])
        self.assertEqual(claim[("f", ("c",))], form_of(program, "f"))
        self.assertEqual(claim[("g", ("c",))], read_form("form c\nnow 0\nnow 1 b returns c\nend 0 returns c\nc 0\n"))
        self.assertEqual(claim[("t", ())], read_form("form c\nnow 0\nend 0\n"))
        self.gives(None, claim_fault, program, "f", claim)
        claim.clear()
        self.is_same(len(claim_of(program=program, function="f")), 3)
        self.gives(None, claim_fault, program=program, function="f", claim=claim_of(program, "f"))

    def test_of_some_programs(self):
        chance = random.Random(31)
        for _ in range(200):
            program = Program(some_functions(chance, 5))
            for name in program.names():
                claim = claim_of(program, name)
                self.is_same(sorted(claim), needed(program, name))
                self.is_same(claim_fault(program, name, claim), None, program)
                self.assertEqual(claim[(name, program.params(name))], form_of(program, name))
                for form in claim.values():
                    self.is_same(form.callbacks, tuple(sorted(program.params(name))))

    def test_larger_claims(self):
        program = Program([("f", ("c",), (("either", (DO_C, A, call("g")), ()),)), ("g", (), (("either", (B, call("g")), ()), STOP)), ("h", ("c",), (DO_C, ("take", 2, "a")))])
        always = Form(("c",), ((),), ())
        self.gives(None, claim_fault, program, "f", {("f", ("c",)): always, ("g", ()): always})
        self.gives(None, claim_fault, program, "h", {("h", ("c",)): read_form("form c\nnow 0\nnow 3 a + 1 z returns c\nend 0 returns c\nc 0\n")})
        self.gives(None, claim_fault, program, "h", {("h", ("c",)): read_form("form c\nendless c\nnow 0\nc 0\n")})

    def test_ends_may_have_lines(self):
        program = Program([("f", ("c",), (call("g", "c"), A)), ("g", ("d",), (DO_D,))])
        claim = claim_of(program, "f")
        claim[("g", ("c",))] = read_form("form c\nnow 9 a\nend 7 a shut u v returns c\nc 0\n")
        claim[("f", ("c",))] = read_form("form c\nnow 9 a\nend 0 shut u returns c\nc 0\n")
        self.gives(("term", ("f", ("c",)), ((), (), "end", ("c",))), claim_fault, program, "f", claim)
        claim[("f", ("c",))] = read_form("form c\nnow 9 a\nend 0 returns c\nc 0\n")
        self.gives(("term", ("g", ("c",)), ((), (), "end", ("c",))), claim_fault, program, "f", claim)


class Faults(Case):
    PROGRAM = Program([("f", ("c",), (A, call("g", "c"), B)), ("g", ("d",), (DO_D, ("either", (U, A, call("g", "d")), ()))), ("t", (), ())])
    F, G = ("f", ("c",)), ("g", ("c",))

    def fault(self, wanted, claim):
        self.gives(wanted, claim_fault, self.PROGRAM, "f", claim)

    def test_no_claims(self):
        for value in ODD_VALUES:
            if isinstance(value, dict) and not value:
                self.fault(("instance", self.F), value)
                continue
            self.assertEqual(claim_fault(self.PROGRAM, "f", value), ("claim", None))
            if not isinstance(value, (list, dict, set)) and "[" not in repr(value) and "{" not in repr(value):
                self.assertEqual(claim_fault(self.PROGRAM, "f", {**claim_of(self.PROGRAM, "f"), value: None}), ("claim", None))
        claim = claim_of(self.PROGRAM, "f")
        for key in (("t", ()), ("g", ("d",)), ("f", ("d",)), ("f", ()), "f"):
            self.fault(("claim", None), {**claim, key: claim[self.F]})
            self.fault(("claim", None), {key: claim[self.F]})
        self.fault(("claim", None), list(claim.items()))

    def test_missing_instances(self):
        claim = claim_of(self.PROGRAM, "f")
        self.fault(("instance", self.F), {})
        self.fault(("instance", self.G), {self.F: None})
        self.fault(("instance", self.F), {self.G: claim[self.G]})

    def test_wrong_forms(self):
        claim = claim_of(self.PROGRAM, "f")
        for value in (*ODD_VALUES, Form((), ((),), ()), Form(("d",), ((),), ()), Form(("c", "d"), ((),), ()), repr(claim[self.F])):
            self.assertEqual(claim_fault(self.PROGRAM, "f", {self.F: value, self.G: None}), ("form", self.F))
            self.assertEqual(claim_fault(self.PROGRAM, "f", {self.G: value, self.F: Form(("c",), ((),), ())}), ("form", self.G))

    def test_endless_and_terms(self):
        program = Program([("f", ("c", "d"), (DO_C, A, call("g", "d"))), ("g", ("x",), (("either", (("do", "x"), B, call("g", "x")), ()),))])
        f, g = ("f", ("c", "d")), ("g", ("d",))
        claim = claim_of(program, "f")
        self.is_same([claim[f].endless, claim[g].endless], [(("c", "d"),), (("d",),)])
        self.gives(("endless", f, ("c", "d")), claim_fault, program, "f", {
            g: claim[g], f: read_form("form c d\nnow 0\nnow 9 a + 9 b returns c\nend 0 returns c\nc 0\nd 0\n")})
        self.gives(("term", f, ((("a", 1),), (), "now", ("c",))), claim_fault, program, "f", {
            g: claim[g], f: read_form("form c d\nendless c d\nnow 0\nend 0 returns c\nc 0\nd 0\n")})
        none = read_form("form c d\nnow 0\nend 0\nd 0\n")
        self.gives(("term", g, ((("b", 1),), (), "now", ("d",))), claim_fault, program, "f", {g: none, f: claim[f]})
        small = read_form("form c d\nnow 0\nnow 5 a + 5 b returns d\nend 0\nd 0\n")
        self.gives(("term", f, ((("a", 6), ("b", 5)), (), "now", ("c", "d"))), claim_fault, program, "f", {
            g: small, f: read_form("form c d\nnow 0\nnow 1 a returns c\nend 0 returns c\nc 0\nd 1 a returns c\n")})

    def test_all_terms_not_only_least_ones(self):
        program = Program([("f", (), (call("g"),)), ("g", (), (("take", 3, "a"),))])
        claim = {("f", ()): read_form("form\nnow 0\nend 0\n"), ("g", ()): read_form("form\nnow 2 a\nnow 3 a shut u\nend 0\n")}
        self.gives(("term", ("f", ()), ((("a", 2),), (), "now", ())), claim_fault, program, "f", claim)

    def test_mixes_of_what_is_claimed(self):
        program = Program([("f", (), (call("g"),)), ("g", (), (A, B))])
        claim = {("f", ()): read_form("form\nnow 2 a\nnow 2 b\nend 0\n"), ("g", ()): read_form("form\nnow 1 a + 1 b\nend 0\n")}
        self.gives(None, claim_fault, program, "f", claim)
        for text in ("form\nnow 2 a\nnow 1 b\nend 0\n", "form\nnow 2 a\nnow 2 b shut u\nend 0\n", "form\nnow 1 a\nend 0\n", "form\nnow 9 a\nend 0\n", "form\nnow 0\nend 0\n"):
            claim[("f", ())] = read_form(text)
            self.gives(("term", ("f", ()), ((("a", 1), ("b", 1)), (), "now", ())), claim_fault, program, "f", claim)

    def test_of_some_programs(self):
        chance = random.Random(32)
        kinds = {}
        for _ in range(250):
            program = Program(some_functions(chance, 4))
            for name in program.names():
                claim = claim_of(program, name)
                for _ in range(4):
                    other, instance = dict(claim), chance.choice(list(claim))
                    other[instance] = chance.choice(list(claim.values()))
                    if chance.random() < .4:
                        other[instance] = either(other[instance], chance.choice(list(claim.values())))
                    if chance.random() < .3:
                        other[chance.choice(list(claim))] = Form(claim[instance].callbacks, ((),), ())
                    fault = claim_fault(program, name, other)
                    self.is_same(fault, fault_of(program, name, other), (program, name, other))
                    kinds[fault and fault[0]] = kinds.get(fault and fault[0], 0) + 1
                    if fault is None:
                        for key, form in claim.items():
                            self.assertTrue(form.at_most(other[key]), (program, name, other))
        self.assertGreater(min(kinds.get(word, 0) for word in (None, "endless", "term")), 20, kinds)

    def test_unknown_functions_and_too_many(self):
        for name in (*ODD_VALUES, "h"):
            for action in (lambda: claim_of(self.PROGRAM, name), lambda: claim_fault(self.PROGRAM, name, None)):
                with self.assertRaises(UnknownFunction) as caught:
                    action()
                self.assertIs(caught.exception.name, name)
        plain = [(letter, (), ()) for letter in "abcdefghi"]
        program = Program([("nine", (), tuple(call(letter) for letter in "abcdefghi")), *plain])
        self.fails(TooMany, {"name": "nine"}, claim_of, program, "nine")
        self.fails(TooMany, {"name": "nine"}, claim_fault, program, "nine", None)


class Sets(Case):
    def test_first_set_in_their_order(self):
        body = (("either", (DO_D, ("loop", None, (A,))), (DO_C, ("loop", None, (A,)))),)
        program = Program([("f", ("c", "d"), body)])
        f = ("f", ("c", "d"))
        self.is_same(form_of(program, "f").endless, (("c",), ("d",)))
        for endless, wanted in (((), ("c",)), ((("c",),), ("d",)), ((("d",),), ("c",)), ((("c", "d"),), ("c",))):
            terms = (START, ((), (), "c", ()), ((), (), "d", ()))
            self.gives(("endless", f, wanted), claim_fault, program, "f", {f: Form(("c", "d"), endless, terms)})
        self.is_same(least_sets([("d",), ("c",)]), (("c",), ("d",)))


if __name__ == "__main__":
    unittest.main()
