"""For any value a judge gives an answer: also where a value's own == or hash raises, or is always true."""

import unittest

from nestdeep.claims import claim_fault, claim_of
from nestdeep.errors import InvalidChain, InvalidWay, UnknownFunction, UnknownInstance, UnknownTerm
from nestdeep.forming import form_of
from nestdeep.instances import instance_form, needed
from nestdeep.programs import Program
from nestdeep.rings import chain_of, chain_term, is_ring, ring_of
from nestdeep.ways import reach, way_to
from tests.helpers import Case
from tests.odd import odd_keys, odd_values, oddly_spoilt

A, B, U, STOP = ("take", 1, "a"), ("take", 1, "b"), ("shut", ("u",)), ("stop",)
DO_C, DO_D = ("do", "c"), ("do", "d")
PROGRAMS = [
    Program([("f", ("c", "d"), (A, ("call", "g", ("c", "t")), DO_C, ("room", (U, ("call", "f", ("d", "t")), DO_D)))),
             ("g", ("x", "y"), (("either", (("do", "x"), B), (("do", "y"), ("loop", 3, (B,)))),)), ("t", (), (U, B))]),
    Program([("f", ("c", "d"), (DO_C, ("room", (A, ("loop", None, (DO_D, ("either", (B,), ()))))), ("loop", 5, (B,))))]),
    Program([("f", ("c", "d"), (DO_C, ("call", "g", ("d", "c")))), ("g", ("x", "y"), (A, ("do", "x"), ("call", "f", ("y", "x")), B))]),
    Program([("f", ("c",), (("call", "g", ("c",)), ("loop", 2, (("loop", None, (A,)),)))), ("g", ("x",), (("do", "x"),))]),
    Program([("s", ("c",), (DO_C, ("loop", None, (A, DO_C))))]),
]


class Judges(Case):
    def raises(self, error, field, value, action):
        with self.assertRaises(error) as caught:
            action()
        self.assertIs(getattr(caught.exception, field), value)

    def test_chains(self):
        count = 0
        for program in PROGRAMS:
            for name in program.names():
                for term in form_of(program, name).terms:
                    for paper in oddly_spoilt(chain_of(program, name, term)):
                        self.raises(InvalidChain, "value", paper, lambda: chain_term(program, name, paper))
                        count += 1
        self.assertGreater(count, 1000)

    def test_rings(self):
        loops = calls = 0
        for program in PROGRAMS:
            for name in program.names():
                for returned in form_of(program, name).endless:
                    paper = ring_of(program, name, returned)
                    self.assertIs(is_ring(program, name, returned, paper), True)
                    loops, calls = loops + (paper[1][0] == "loop"), calls + (paper[1][0] != "loop")
                    for other in oddly_spoilt(paper):
                        self.assertIs(is_ring(program, name, returned, other), False)
                    for other in oddly_spoilt(returned):
                        self.assertIs(is_ring(program, name, other, paper), False)
        self.assertGreater(min(loops, calls), 0)

    def test_the_instance_of_a_loop(self):
        program = PROGRAMS[-1]
        for odd in odd_values():
            for instance in (odd, (odd, ("c",)), ("s", odd), ("s", (odd,))):
                paper = ((), ("loop", instance, ((None,), "now"), ((None, None), "end")), ())
                self.assertIs(is_ring(program, "s", ("c",), paper), False)

    def test_ways(self):
        for program in PROGRAMS:
            for name in program.names():
                body = program.body(name)
                for way in (((None,), "now"), ((), "call"), ((), "now")):
                    for other in oddly_spoilt(way):
                        self.raises(InvalidWay, "value", other, lambda: reach(body, other))
        body = (A, ("room", (B, DO_C)), ("either", (A,), (B,)), ("loop", 3, (A, DO_D)))
        turn = ((None, None), "end")
        for way in (((None, turn, (1, ((None,), "end")), ((1, turn), (2, turn))), "end"), ((None,), ((None,), "call")),
                    ((None, turn), (0, ((), "now"))), ((None, turn, (0, ((None,), "end"))), (((2, turn),), ((None,), "now")))):
            reach(body, way)
            for other in oddly_spoilt(way):
                self.raises(InvalidWay, "value", other, lambda: reach(body, other))

    def test_what_papers_are_asked_for(self):
        for program in PROGRAMS:
            form = form_of(program, program.names()[0])
            for term in form.terms[:3]:
                for other in oddly_spoilt(term):
                    self.raises(UnknownTerm, "value", other, lambda: chain_of(program, program.names()[0], other))
                    self.raises(UnknownTerm, "value", other, lambda: ring_of(program, program.names()[0], other))
                    self.raises(UnknownTerm, "value", other, lambda: way_to((A,), other))
            for instance in needed(program, program.names()[0]):
                for other in oddly_spoilt(instance):
                    self.raises(UnknownInstance, "value", other, lambda: instance_form(program, program.names()[0], other))
            for odd in odd_values():
                for action in (form_of, needed, claim_of):
                    self.raises(UnknownFunction, "name", odd, lambda: action(program, odd))


class Claims(Case):
    def test_keys(self):
        for program in PROGRAMS:
            for name in program.names():
                claim = claim_of(program, name)
                own = (name, program.params(name))
                for odd in odd_keys():
                    for key in (odd, (odd, ()), (name, odd), (name, (odd,)), (name, (*program.params(name)[:-1], odd))):
                        self.gives(("claim", None), claim_fault, program, name, {key: 1})
                        self.gives(("claim", None), claim_fault, program, name, {key: claim[own]})
                        self.gives(("claim", None), claim_fault, program, name, {**claim, key: 1})
                        self.gives(("claim", None), claim_fault, program, name, {key: claim[own], **claim})
                self.assertIsNone(claim_fault(program, name, claim))

    def test_values(self):
        for program in PROGRAMS:
            for name in program.names():
                claim = claim_of(program, name)
                for instance in claim:
                    for odd in odd_values():
                        self.is_same(claim_fault(program, name, {**claim, instance: odd}), ("form", instance))
        for odd in odd_values():
            self.is_same(claim_fault(PROGRAMS[-1], "s", odd), ("claim", None))
            self.is_same(claim_fault(PROGRAMS[-1], "s", [odd]), ("claim", None))

    def gives(self, wanted, action, *args):
        # What raises when it is compared cannot be compared with a copy of itself.
        self.is_same(action(*args), wanted)


if __name__ == "__main__":
    unittest.main()
