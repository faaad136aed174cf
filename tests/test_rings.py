import random
import unittest

from nestdeep.errors import InvalidChain, TooMany, UnknownFunction, UnknownTerm
from nestdeep.forming import form_of
from nestdeep.programs import Program
from nestdeep.rings import chain_of, chain_term, is_ring, ring_of
from tests.helpers import ODD_VALUES, Case
from tests.odd import at, parts, put
from tests.reached import choices_in_turn
from tests.programs import judged_chain, judged_ring, some_functions

A, B, U, STOP = ("take", 1, "a"), ("take", 1, "b"), ("shut", ("u",)), ("stop",)
DO_C, DO_D = ("do", "c"), ("do", "d")
END = ((), "end")


def call(name, *args):
    return ("call", name, args)


def spoilt(random, paper):
    """The paper with one thing changed somehow."""
    path = random.choice(parts(paper))
    found = at(paper, path)
    new = [at(paper, random.choice(parts(paper))), None, (), 0, 1, 2, True, "now", "end", "call", "loop", "x", "f", ("f", ()), ("g", ()), ("g", ("x",)), END]
    if isinstance(found, tuple):
        new.extend([list(found), found[:-1], found[1:], (*found, None), found + found, tuple(reversed(found)), found + found[-1:]])
        if found:
            new.extend([found + (random.choice(found),)] * 3)
    if isinstance(found, int) and not isinstance(found, bool):
        new.extend([found + 1, found - 1, 10 ** 12])
    return put(paper, path, random.choice(new))


class Small(Case):
    F = ("f", ("c",), (A, call("g", "c", "t"), DO_C, ("room", (U, call("f", "c")))))
    G = ("g", ("x", "y"), (("either", (("do", "x"), B), (("do", "y"), ("take", 3, "b"))),))
    T = ("t", (), (U, ("take", 7, "b")))
    PROGRAM = Program([F, G, T])

    def reaches(self, term, paper):
        self.gives(term, chain_term, self.PROGRAM, "f", paper)

    def none(self, paper, name="f", program=None):
        self.fails(InvalidChain, {"value": paper}, chain_term, program or self.PROGRAM, name, paper)

    def test_chains(self):
        own, inner, plain = ("f", ("c",)), ("g", ("c", "t")), ("t", ())
        self.reaches(((), (), "now", ()), (((own, ((), "now")),), ()))
        self.reaches(((("a", 1),), (), "now", ()), (((own, ((None,), "now")),), ()))
        left, right = (((0, ((None, None), "end")),), "end"), (((1, ((None, None), "end")),), "end")
        self.reaches(((("a", 1),), (), "c", ("c",)), (((own, ((None, None), "call")),), ((inner, left),)))
        self.reaches(((("a", 1),), (), "c", ()), (((own, ((None, None), "call")),), ((plain, ((None, None), "end")), (inner, right))))
        self.reaches(((("a", 1),), (), "c", ()), (((own, ((None,), "call")), (inner, ((), (0, ((), "call"))))), ()))
        self.reaches(((("a", 1), ("b", 7)), ("u",), "now", ()), (
            ((own, ((None,), "call")), (inner, ((), (1, ((), "call")))), (plain, ((None, None), "now"))), ()))
        self.reaches(((("a", 2),), ("u",), "now", ("c",)), (
            ((own, ((None, None, None), ((None,), "call"))), (own, ((None,), "now"))), ((inner, left),)))

    def test_ends(self):
        program = Program([("f", ("c",), (A, DO_C, U, B)), ("g", ("c",), (call("f", "c"),))])
        self.gives(((), (), "end", ("c",)), chain_term, program, "f", (((("f", ("c",)), ((None,) * 4, "end")),), ()))
        self.none((((("f", ("c",)), ((None,) * 4, "end")), (("f", ("c",)), ((None,) * 4, "end"))), ()), "f", program)
        self.none((((("g", ("c",)), ((), "call")), (("f", ("c",)), ((None,) * 4, "end"))), ()), "g", program)
        self.gives(((), (), "end", ("c",)), chain_term, program, "g", (((("g", ("c",)), ((None,), "end")),), ((("f", ("c",)), ((None,) * 4, "end")),)))

    def test_links_that_do_not_follow(self):
        own, inner, plain = ("f", ("c",)), ("g", ("c", "t")), ("t", ())
        first, last = (own, ((None,), "call")), (inner, ((), (1, ((), "call"))))
        self.reaches(((("a", 1),), (), "now", ()), ((first, (inner, ((), "now"))), ()))
        for links in (
            (), (last,), ((inner, ((), "now")),), (first,), (first, last), (first, (("g", ("t", "t")), ((), "now"))), (first, (("g", ("c", "c")), ((), "now"))),
            (first, (own, ((), "now"))), ((own, ((), "now")), (inner, ((), "now"))), (first, last, (plain, ((None, None), "end"))), (first, last, (inner, ((), "now"))),
            ((("f", ("t",)), ((), "now")),), ((("f", ("d",)), ((), "now")),), ((own, ((None, None), "call")),), (first, last, (plain, ((None, None), "now")), (plain, ((), "now"))),
        ):
            self.none((links, ()))

    def test_returns(self):
        own, inner, plain = ("f", ("c",)), ("g", ("c", "t")), ("t", ())
        links = ((own, ((None, None), "call")),)
        left, right, through = (((0, ((None, None), "end")),), "end"), (((1, ((None, None), "end")),), "end"), ((None, None), "end")
        other = ("g", ("t", "c"))
        for returns, term in (
            (((inner, left),), ((("a", 1),), (), "c", ("c",))), (((plain, through), (inner, right)), ((("a", 1),), (), "c", ())),
            (((inner, left), (plain, through)), ((("a", 1),), (), "c", ("c",))), (((plain, through), (inner, right), (other, left)), ((("a", 1),), (), "c", ())),
            (((other, right), (inner, left)), ((("a", 1),), (), "c", ("c",))), (((inner, left), (("g", ("c", "c")), left)), ((("a", 1),), (), "c", ("c",))),
        ):
            self.reaches(term, (links, returns))
        for returns in (
            (), ((plain, through),), ((inner, right),), ((inner, right), (plain, through)), ((inner, left), (inner, left)), ((plain, through), (inner, right), (plain, through)),
            ((inner, (((0, ((None, None), "end")),), "now")),), ((inner, left), (other, left)), ((inner, ((), (0, ((None,), "now")))),), (((inner, left)),)[0],
            ((inner, left), (("g", ("c", "d")), left)), ((inner, left), (("g", ("c",)), left)), ((inner, left), (("z", ()), END)), ((inner, left), (("g", ("f", "t")), right)),
            [(inner, left)], ([inner, left],), ((inner, left, None),), ((inner, left), None), None,
        ):
            self.none((links, returns))

    def test_a_return_does_not_stand_behind_the_way_that_needs_it(self):
        program = Program([("f", ("c",), (call("g"), DO_C)), ("g", (), (("either", (call("g"),), ()),))])
        deep, flat = (((0, ((None,), "end")),), "end"), (((1, END),), "end")
        own, g = ("f", ("c",)), ("g", ())
        self.gives(((), (), "c", ()), chain_term, program, "f", (((own, ((None,), "call")),), ((g, flat),)))
        for returns in (((g, deep),), ((g, deep), (g, flat)), ((g, flat), (g, deep))):
            self.none((((own, ((None,), "call")),), returns), "f", program)

    def test_values_of_other_kinds(self):
        for value in ODD_VALUES:
            for paper in (value, (value, ()), ((value,), ()), (((("f", ("c",)), ((), "now")),), value), ((((value), ((), "now")),), ()), (((("f", value), ((), "now")),), ()),
                          ((((value, ("c",)), ((), "now")),), ()), (((("f", ("c",)), value),), ()), (((("f", ("c",)), ((), "now")),), (), value), (((("f", ("c",)), ((), "now")),), ((value, END),))):
                if paper == (((("f", ("c",)), ((), "now")),), ()):
                    continue
                with self.assertRaises(InvalidChain) as caught:
                    chain_term(self.PROGRAM, "f", paper)
                self.assertIs(caught.exception.value, paper)

    def test_chain_of(self):
        form = form_of(self.PROGRAM, "f")
        for term in form.terms:
            paper = chain_of(self.PROGRAM, "f", term)
            self.gives(term, chain_term, self.PROGRAM, "f", paper)
            self.gives(paper, chain_of, program=self.PROGRAM, function="f", term=term)
            self.gives(term, chain_term, program=self.PROGRAM, function="f", paper=paper)
        for term in (*ODD_VALUES, ((), (), "now", ("c",)), ((("a", 1),), (), "now", ()), ((("zz", 1),), (), "now", ()), (form.terms[0][0], *form.terms[0][1:3], list(form.terms[0][3])),
                     (tuple((frame, True if count == 1 else count) for frame, count in form.terms[-1][0]), *form.terms[-1][1:]), ((), (), ("t", ()), ()), list(form.terms[0])):
            with self.assertRaises(UnknownTerm) as caught:
                chain_of(self.PROGRAM, "f", term)
            self.assertIs(caught.exception.value, term)

    def test_unknown_functions(self):
        for name in (*ODD_VALUES, "h"):
            for action in (lambda: chain_of(self.PROGRAM, name, None), lambda: ring_of(self.PROGRAM, name, None), lambda: chain_term(self.PROGRAM, name, None),
                           lambda: is_ring(self.PROGRAM, name, None, None)):
                with self.assertRaises(UnknownFunction) as caught:
                    action()
                self.assertIs(caught.exception.name, name)

    def test_too_many(self):
        plain = [(letter, (), ()) for letter in "abcdefghi"]
        program = Program([("nine", (), tuple(call(letter) for letter in "abcdefghi")), *plain])
        self.fails(TooMany, {"name": "nine"}, chain_of, program, "nine", None)
        self.fails(TooMany, {"name": "nine"}, ring_of, program, "nine", None)
        self.gives(((), (), "now", ()), chain_term, program, "nine", (((("nine", ()), ((), "now")),), ()))
        self.gives(False, is_ring, program, "nine", (), ((), ((("nine", ()), ((), "call")),), ()))


class Rings(Case):
    OWN = ("f", ("c", "d"))

    def holds(self, wanted, program, returned, paper, name="f"):
        self.gives(wanted, is_ring, program, name, returned, paper)

    def test_loops(self):
        program = Program([("f", ("c", "d"), (DO_C, ("room", (A, ("loop", None, (DO_D, ("either", (B,), ()))))), ("loop", 5, (B,))))])
        turn, still = ((None, (0, ((None,), "end"))), "end"), ((None, (1, END)), "end")
        way = ((None,), ((None,), "now"))
        ring = ((), ("loop", self.OWN, way, turn), ())
        self.is_same(form_of(program, "f").endless, (("c", "d"),))
        self.holds(True, program, ("c", "d"), ring)
        for returned in ((), ("c",), ("d",), ("d", "c"), ("c", "d", "x"), ("c", "c", "d"), ["c", "d"], None, "cd", *ODD_VALUES):
            self.assertIs(is_ring(program, "f", returned, ring), False)
        for other in (
            ("loop", self.OWN, way, still), ("loop", self.OWN, way, ((None,), "now")), ("loop", self.OWN, ((None,), "now"), turn), ("loop", self.OWN, ((None,), ((), "now")), turn),
            ("loop", self.OWN, ((None, (((None, ()), "end"))), "now"), ((None,), "end")), ("loop", ("f", ("d", "c")), way, turn), ("loop", ("g", ()), way, turn), ("loop", self.OWN, way),
            ("loop", self.OWN, way, turn, None), ("Loop", self.OWN, way, turn), ["loop", self.OWN, way, turn], (way, self.OWN, way, turn), ("loop", None, way, turn), ("loop", self.OWN, None, turn),
            ("loop", self.OWN, way, None), ("loop", self.OWN, ((None,), ((None, ((1, turn),)), "now")), turn), ("loop", self.OWN, way, END), (), None,
        ):
            self.holds(False, program, ("c", "d"), ((), other, ()))
        within = ((None,), ((None,), (((3, turn),), ((), "now"))))
        self.holds(False, program, ("c", "d"), ((), ("loop", self.OWN, within, turn), ()))

    def test_a_loop_within_rounds(self):
        inner = ("loop", None, (A,))
        program = Program([("f", ("c", "d"), (("loop", 3, (DO_C, inner)),))])
        turn = ((None, ()), "end")
        for pairs, wanted in (((), True), (((2, turn),), True), (((3, turn),), False)):
            self.holds(wanted, program, ("c",), ((), ("loop", self.OWN, ((), (pairs, ((None,), "now"))), ((None,), "end")), ()))
        self.is_same(form_of(program, "f").endless, (("c",),))

    def test_calls(self):
        program = Program([("f", ("c", "d"), (DO_C, call("g", "d", "c"))), ("g", ("x", "y"), (A, ("do", "x"), call("f", "y", "x"), B))])
        g = ("g", ("d", "c"))
        first, second = (self.OWN, ((None,), "call")), (g, ((None, None), "call"))
        self.is_same(form_of(program, "f").endless, (("c", "d"),))
        self.holds(True, program, ("c", "d"), ((), (first, second), ()))
        self.holds(True, program, ("c", "d"), ((first,), (second, first), ()))
        self.holds(True, program, ("c", "d"), ((first, second), (first, second), ()))
        self.holds(True, program, ("c", "d"), ((), (first, second, first, second), ()))
        for links, ring in (
            ((), (second, first)), ((first,), (first, second)), ((), (first,)), ((), (first, second, first)), ((second,), (first, second)), ((first, first), (second, first)),
            ((), ()), ((), (first, (g, ((None,), "call")))), ((), (first, (g, ((None, None), "now")))), ((first, (g, ((None, None), "now"))), (first, second)), (None, (first, second)),
            ([first], (second, first)), ((), [first, second]), ((), ((*first, None), second)), ((), (first, None)), ((first, second), (second, first)),
        ):
            self.holds(False, program, ("c", "d"), (links, ring, ()))
        for returned in ((), ("c",), ("d",)):
            self.holds(False, program, returned, ((), (first, second), ()))
        self.holds(False, program, ("c", "d"), ((), (first, second)))
        self.holds(False, program, ("c", "d"), ((), (first, second), None))
        self.holds(False, program, ("c", "d"), ((), (first, second), (), ()))
        self.gives(True, is_ring, program=program, function="f", returned=("c", "d"), paper=((), (first, second), ()))

    def test_a_ring_that_takes_nothing(self):
        program = Program([("f", ("c", "d"), (U, ("room", (A,)), call("f", "d", "c")))])
        exchanged = ("f", ("d", "c"))
        ring = ((self.OWN, ((None, ((None,), "end")), "call")), (exchanged, ((None, ((None,), "end")), "call")))
        self.holds(False, program, (), ((), ring, ()))
        self.is_same(form_of(program, "f").endless, ())

    def test_returns_of_rings(self):
        program = Program([("f", ("c", "d"), (call("g", "c"), ("either", (A, call("f", "c", "d")), ()))), ("g", ("x",), (("do", "x"),)), ("t", (), ())])
        ring, g = ((self.OWN, ((None,), (0, ((None,), "call")))),), (("g", ("c",)), ((None,), "end"))
        other = (("g", ("d",)), ((None,), "end"))
        for returns, wanted in (((g,), True), ((), False), ((other,), False), ((g, g), False), ((other, g), True), (((("g", ("t",)), ((None,), "end")), g), False),
                                (((("t", ()), END), (("g", ("t",)), ((None,), "end")), g), True), (((g[0], ((), "now")),), False)):
            self.holds(wanted, program, ("c",), ((), ring, returns))
            self.holds(wanted, program, ("c", "d"), ((), ring, returns))
            self.holds(False, program, ("d",), ((), ring, returns))
        self.holds(True, program, ("c",), ring_of(program, "f", ("c",)))

    def test_loops_within_statements(self):
        inner = ("loop", None, (("either", (), (DO_C, A)),))
        for body in ((inner,), (("room", (B, inner)),), (("either", (inner,), (DO_D,)),), (("either", (DO_D,), (U, inner)),), (("loop", 7, (B, inner)),),
                     (("loop", None, (inner,)),), (DO_D, ("room", (("loop", 2, (B, inner)),))), (("either", (STOP,), (DO_D,)), inner, inner),
                     (("loop", 2, (DO_D, STOP)), ("room", ()), inner), (DO_C, inner, STOP), (("room", (("either", (inner,), (inner,)),)),)):
            program = Program([("f", ("c", "d"), body)])
            for returned in form_of(program, "f").endless:
                paper = ring_of(program, "f", returned)
                self.holds(True, program, returned, paper)
                self.assertLessEqual(judged_ring(program, "f", paper), set(returned))
            self.assertIn("c", form_of(program, "f").endless[0])

    def test_unknown_sets(self):
        program = Program([("f", ("c", "d"), (DO_C, ("loop", None, (A,)), DO_D))])
        for returned in (*ODD_VALUES, (), ("d",), ("c", "d"), ["c"], "c", ("x",)):
            with self.assertRaises(UnknownTerm) as caught:
                ring_of(program, "f", returned)
            self.assertIs(caught.exception.value, returned)
        paper = ring_of(program=program, function="f", returned=("c",))
        self.gives(paper, ring_of, program, "f", ("c",))
        self.holds(True, program, ("c",), paper)
        self.holds(True, program, ("c", "d"), paper)

    def test_papers_of_other_kinds(self):
        program = Program([("f", (), (("loop", None, (A,)),))])
        for value in ODD_VALUES:
            for paper in (value, (value, value, value), ((), value, ()), ((), (value,), ()), ((), ("loop", value, ((), "now"), ((None,), "end")), ()),
                          ((), ("loop", ("f", ()), value, ((None,), "end")), ()), ((), ("loop", ("f", ()), ((), "now"), value), ()), (((value,)), ("loop", ("f", ()), ((), "now"), ((None,), "end")), ()),
                          ((value,), ("loop", ("f", ()), ((), "now"), ((None,), "end")), ())):
                if paper != ((), ("loop", ("f", ()), ((), "now"), ((None,), "end")), ()):
                    self.assertIs(is_ring(program, "f", (), paper), False, paper)
        self.assertIs(is_ring(program, "f", (), ((), ("loop", ("f", ()), ((), "now"), ((None,), "end")), ())), True)


class Some(Case):
    """Papers of some programs, and the same with one thing spoilt, which another judge judges, too."""

    def test_each_term_and_each_endless_set(self):
        chance = random.Random(21)
        terms = rings = 0
        for _ in range(350):
            program = Program(some_functions(chance, 5))
            for name in program.names():
                form = form_of(program, name)
                for term in form.terms:
                    paper = chain_of(program, name, term)
                    self.is_same(chain_term(program, name, paper), term, program)
                    self.is_same(judged_chain(program, name, paper), term, program)
                    terms += 1
                for returned in form.endless:
                    paper = ring_of(program, name, returned)
                    self.is_same(is_ring(program, name, returned, paper), True, program)
                    self.assertLessEqual(judged_ring(program, name, paper), set(returned), program)
                    rings += 1
        self.assertGreater(terms, 1500)
        self.assertGreater(rings, 100)

    def test_many_shuts(self):
        """Terms with the same lines whose shuts and whose returned differ, along several calls."""
        chance = random.Random(23)
        count = 0
        for _ in range(120):
            rows = [("f", ("c", "d"), (*choices_in_turn(chance, "ab", 1), ("either", (call("g", "c"),), (call("h", "d", "c"),)))),
                    ("g", ("x",), tuple(rename(one, {"c": "x", "d": "x"}) for one in choices_in_turn(chance, "ab", chance.randint(1, 2)))),
                    ("h", ("x", "y"), (*rename(choices_in_turn(chance, "ab", 1), {"c": "x", "d": "y"}), call("g", chance.choice("xy")), U, ("do", "y")))]
            program = Program(rows)
            for name in "fgh":
                try:
                    terms = form_of(program, name).terms
                except TooMany:
                    continue
                for term in terms:
                    paper = chain_of(program, name, term)
                    self.is_same(chain_term(program, name, paper), term, rows)
                    self.is_same(judged_chain(program, name, paper), term, rows)
                    count += 1
        self.assertGreater(count, 1000)

    def test_spoilt_papers(self):
        chance = random.Random(22)
        counts = {True: 0, False: 0}
        for _ in range(120):
            program = Program(some_functions(chance, 4))
            for name in program.names():
                form = form_of(program, name)
                papers = [chain_of(program, name, term) for term in form.terms]
                rings = [(returned, ring_of(program, name, returned)) for returned in form.endless]
                for paper in papers:
                    for _ in range(12):
                        wrong = spoilt(chance, paper)
                        counts[self.same_chain(program, name, wrong)] += 1
                for returned, paper in rings:
                    for _ in range(40):
                        wrong = spoilt(chance, paper)
                        counts[self.same_ring(program, name, returned, wrong)] += 1
        self.assertGreater(min(counts.values()), 200, counts)

    def same_chain(self, program, name, paper):
        try:
            wanted = judged_chain(program, name, paper) if is_shaped(paper, 2) else None
        except (ValueError, KeyError, TypeError, IndexError):
            wanted = None
        try:
            found = chain_term(program, name, paper)
        except InvalidChain:
            found = None
        self.is_same(found, wanted, (program, name, paper))
        return found is not None

    def same_ring(self, program, name, returned, paper):
        try:
            wanted = is_shaped(paper, 3) and isinstance(paper[1], tuple) and judged_ring(program, name, paper) <= set(returned)
        except (ValueError, KeyError, TypeError, IndexError):
            wanted = False
        self.is_same(is_ring(program, name, returned, paper), wanted, (program, name, returned, paper))
        return wanted


def rename(value, names):
    if isinstance(value, tuple):
        return tuple(rename(item, names) for item in value)
    return names.get(value, value) if isinstance(value, str) else value


def is_shaped(paper, size):
    """Whether lists and wrong kinds stand nowhere in a paper but perhaps in its ways; the other judge does not look at this."""
    if not isinstance(paper, tuple) or len(paper) != size:
        return False
    pairs = [paper[0], paper[-1]]
    if size == 3 and isinstance(paper[1], tuple) and paper[1]:
        if paper[1][0] == "loop":
            return len(paper[1]) == 4 and is_instance(paper[1][1]) and all(map(are_pairs, pairs))
        pairs.append(paper[1])
    return all(map(are_pairs, pairs))


def is_instance(value):
    return isinstance(value, tuple) and len(value) == 2 and isinstance(value[0], str) and isinstance(value[1], tuple) and all(isinstance(arg, str) for arg in value[1])


def are_pairs(value):
    return isinstance(value, tuple) and all(isinstance(pair, tuple) and len(pair) == 2 and is_instance(pair[0]) for pair in value)


if __name__ == "__main__":
    unittest.main()
