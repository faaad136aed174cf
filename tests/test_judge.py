import random
import unittest

from nestdeep.bodies import either
from nestdeep.claims import claim_fault, claim_of
from nestdeep.contexts import depth_in
from nestdeep.errors import InvalidClaim, TooMany
from nestdeep.forming import form_of
from nestdeep.forms import Form
from nestdeep.judge import is_claimed, is_paper, paper_of
from nestdeep.mends import is_no_tree, least_mends
from nestdeep.mixes import is_covered
from nestdeep.mixpapers import is_parting, is_weights
from nestdeep.nestpapers import chain_moment, house_fault, is_house_chain, is_house_ring
from nestdeep.nests import greatest_depth, is_endless
from nestdeep.orders import is_order_paper
from nestdeep.programs import Program
from nestdeep.rings import chain_term, is_ring
from tests.contexts import is_deeper, some_forms, some_pair
from tests.helpers import BIG, ODD_VALUES, Case
from tests.houses import call, house_of, size, some_house, some_sizes
from tests.odd import odd_keys, odd_values, oddly_spoilt
from tests.programs import some_functions

A, B, STOP, DO_C, DO_D = ("take", 1, "a"), ("take", 1, "b"), ("stop",), ("do", "c"), ("do", "d")
START, END = ((), (), "now", ()), ((), (), "end", ())
NINE = tuple(call(letter) for letter in "cdefghijk")
MANY = Program([("nine", (), NINE), *((letter, (), ()) for letter in "cdefghijk")])
PROGRAM = Program([("f", ("d", "x"), (A, ("do", "x"), ("loop", None, (B, ("do", "d"))))), ("t", (), (A, ("shut", ("u",)), B)), ("g", (), (call("f", "t", "t"),))])
FORM = form_of(PROGRAM, "f")
LINES = [(("a", 2),), (("b", 2),), (("a", 1), ("b", 1)), (("a", 1), ("b", 2))]
HOUSE = house_of({"u": ("tick", 2, ()), "v": ("tock", 1, ("u",))}, main=(A,), tick=(("take", 2, "b"),), tock=(("take", 4, "b"),))
SIZES = {"a": 1, "b": 1}
# Of each kind a thing that is true, and one that is not.
TRUE = {
    "covered": ("covered", LINES[2], LINES[:2]), "not covered": ("not covered", LINES[3], LINES[:2]), "reached": ("reached", PROGRAM, "f", FORM.terms[-1]),
    "endless": ("endless", PROGRAM, "f", ("d", "x")), "bounded": ("bounded", PROGRAM, "f", FORM), "never deeper": ("never deeper", FORM, FORM),
    "deeper": ("deeper", form_of(PROGRAM, "t"), Form((), (), (START, END))), "keeps": ("keeps", HOUSE, SIZES, 9), "exceeds": ("exceeds", HOUSE, SIZES, 8), "no mends": ("no mends", HOUSE, SIZES, 4, 1),
}
FALSE = {
    "covered": ("covered", LINES[3], LINES[:2]), "not covered": ("not covered", LINES[2], LINES[:2]), "endless": ("endless", PROGRAM, "f", ("d",)),
    "bounded": ("bounded", PROGRAM, "t", Form((), (), (START, END))), "never deeper": ("never deeper", form_of(PROGRAM, "t"), Form((), (), (START, END))), "deeper": ("deeper", FORM, FORM),
    "keeps": ("keeps", HOUSE, SIZES, 8), "exceeds": ("exceeds", HOUSE, SIZES, 9), "no mends": ("no mends", HOUSE, SIZES, 4, 2),
}


def right(claimed, paper):
    """Whether a value is a paper, by the judge of its own stage."""
    word, *parts = claimed
    if word == "covered":
        return is_weights(*parts, paper)
    if word == "not covered":
        return is_parting(*parts, paper)
    if word == "reached":
        try:
            return chain_term(parts[0], parts[1], paper) == parts[2]
        except ValueError:
            return False
    if word == "endless":
        return is_ring(*parts, paper)
    if word == "bounded":
        program, name, form = parts
        return claim_fault(program, name, paper) is None and paper[name, program.params(name)].at_most(form)
    if word in ("never deeper", "deeper"):
        return is_order_paper(*parts, word == "never deeper", paper)
    if word == "keeps":
        return house_fault(*parts, paper) is None
    if word == "no mends":
        return is_no_tree(*parts, paper)
    house, sizes, limit = parts
    if is_house_ring(house, paper):
        return True
    return is_house_chain(house, paper) and size(chain_moment(house, paper)[0], sizes) > limit


class Claimed(Case):
    def test_right_ones(self):
        for claimed in (*TRUE.values(), *FALSE.values()):
            self.assertIs(is_claimed(claimed), True, claimed)
            self.assertIs(is_claimed(value=claimed), True)
        for claimed in (("covered", (), []), ("covered", LINES[0], ()), ("not covered", LINES[0], tuple(LINES)), ("endless", PROGRAM, "f", ()), ("endless", PROGRAM, "g", ()),
                        ("bounded", PROGRAM, "g", Form((), ((),), ())), ("keeps", HOUSE, {**SIZES, "z": None}, 0), ("exceeds", HOUSE, SIZES, BIG), ("no mends", HOUSE, SIZES, 0, 0),
                        ("no mends", HOUSE, SIZES, 0, 2), ("endless", MANY, "nine", ()), ("bounded", MANY, "nine", Form((), ((),), ()))):
            self.assertIs(is_claimed(claimed), True, claimed)

    def test_wrong_ones(self):
        for value in (*ODD_VALUES, *odd_values(), "covered", ("covered",), ("",), ("Covered", *TRUE["covered"][1:]), ("nothing", 1, 2)):
            self.none(value)
        for claimed in TRUE.values():
            self.none(claimed[:-1])
            self.none((*claimed, claimed[-1]))
            self.none(list(claimed))
            self.none((claimed[0].upper(), *claimed[1:]))
            self.none(((claimed[0],), *claimed[1:]))
            for at in range(len(claimed)):
                for value in (*odd_values(), None, True, -1, "none", (1,), {1: 1}, object()):
                    self.none((*claimed[:at], value, *claimed[at + 1:]))

    def none(self, value):
        self.assertIs(is_claimed(value), False, value)
        for action in (paper_of, lambda one: is_paper(one, None), lambda one: is_paper(one, value)):
            with self.assertRaises(InvalidClaim) as caught:
                action(value)
            self.assertIs(caught.exception.value, value)

    def test_parts_of_other_kinds(self):
        term = FORM.terms[0]
        other = Form(("x",), (), (START, ((), (), "end", ("x",)), ((), (), "x", ())))
        instance, taken = Form((("g", ()),), (), (START, END)), Form((), (), (((("a", 1),), (), "now", ()), ((("a", 1),), (), "end", ())))
        for claimed in (
            ("covered", LINES[0], {LINES[0]: 1}), ("covered", LINES[0], [LINES[0], [("a", 1)]]), ("covered", (("a", 0),), LINES), ("covered", (("b", 1), ("a", 1)), LINES), ("not covered", LINES[0], None),
            ("not covered", list(LINES[0]), LINES), ("not covered", LINES[0], LINES[0]),
            ("reached", PROGRAM, "f", ((("z", 1),), (), "now", ())), ("reached", PROGRAM, "f", list(term)), ("reached", PROGRAM, "h", term), ("reached", PROGRAM.functions(), "f", term), ("reached", PROGRAM, None, term),
            ("reached", PROGRAM, "t", ((("a", True), ("b", 1)), ("u",), "now", ())), ("reached", MANY, "nine", START), ("reached", PROGRAM, "f", ((), (), "now", ("x", "d"))),
            ("endless", PROGRAM, "f", ("x", "d")), ("endless", PROGRAM, "f", ["d"]), ("endless", PROGRAM, "f", ("d", "d")), ("endless", PROGRAM, "f", ("t",)), ("endless", PROGRAM, "t", ("d",)), ("endless", PROGRAM, "h", ()),
            ("endless", None, "f", ()), ("endless", HOUSE, "main", ()),
            ("bounded", PROGRAM, "f", other), ("bounded", PROGRAM, "t", FORM), ("bounded", PROGRAM, "t", taken), ("bounded", PROGRAM, "t", instance), ("bounded", PROGRAM, "t", None), ("bounded", PROGRAM, "h", FORM),
            ("never deeper", FORM, other), ("never deeper", instance, instance), ("never deeper", taken, taken), ("never deeper", Form((), ((),), ()), taken), ("deeper", FORM, None), ("deeper", None, FORM), ("deeper", other, FORM),
            ("keeps", HOUSE, {"a": 1}, 5), ("keeps", HOUSE, {"a": 1, "b": 0}, 5), ("keeps", HOUSE, {"a": 1, "b": True}, 5), ("keeps", HOUSE, None, 5), ("keeps", HOUSE, SIZES, -1), ("keeps", HOUSE, SIZES, None),
            ("keeps", PROGRAM, SIZES, 5), ("exceeds", HOUSE, SIZES, True), ("exceeds", HOUSE, [("a", 1), ("b", 1)], 5), ("exceeds", None, SIZES, 5),
            ("no mends", HOUSE, SIZES, 5, 3), ("no mends", HOUSE, SIZES, 5, -1), ("no mends", HOUSE, SIZES, 5, True), ("no mends", HOUSE, SIZES, None, 1), ("no mends", HOUSE, {}, 5, 1), ("no mends", None, SIZES, 5, 1),
        ):
            self.none(claimed)
        for odd in odd_keys():
            self.none(("keeps", HOUSE, {odd: 1}, 5))
        for line in oddly_spoilt(LINES[2]):
            self.none(("covered", line, LINES))
            self.none(("covered", LINES[2], [LINES[0], line]))
        for one in oddly_spoilt(FORM.terms[-1]):
            self.none(("reached", PROGRAM, "f", one))


class Papers(Case):
    def test_true_and_not_true(self):
        for word, claimed in TRUE.items():
            paper = paper_of(claimed)
            self.assertIsNotNone(paper, word)
            self.assertIs(is_paper(claimed, paper), True, word)
            self.assertIs(is_paper(claimed=claimed, value=paper), True)
            self.assertTrue(right(claimed, paper))
            self.assertEqual(paper_of(claimed=claimed), paper)
        for word, claimed in FALSE.items():
            self.assertIsNone(paper_of(claimed), word)
            for other in TRUE.values():
                self.assertIs(is_paper(claimed, paper_of(other)), False, (word, other[0]))

    def test_values_of_other_kinds(self):
        for word, claimed in [*TRUE.items(), *FALSE.items()]:
            for value in (*ODD_VALUES, *odd_values(), [paper_of(claimed)], (paper_of(claimed),)):
                if not right(claimed, value):
                    self.assertIs(is_paper(claimed, value), False, (word, value))
        for word, claimed in TRUE.items():
            if isinstance(paper_of(claimed), tuple) and word not in ("keeps",):
                for value in oddly_spoilt(paper_of(claimed)):
                    self.assertIs(is_paper(claimed, value), False, (word, value))
        for word in ("not covered", "bounded"):
            for odd in odd_keys():
                self.assertIs(is_paper(TRUE[word], {**paper_of(TRUE[word]), odd: 1}), False)
                self.assertIs(is_paper(TRUE[word], {key: odd for key in paper_of(TRUE[word])}), False)
        claims, bounds = paper_of(TRUE["keeps"])
        for odd in odd_keys():
            for value in (({**claims, odd: 1}, bounds), (claims, {**bounds, odd: 1}), ({key: odd for key in claims}, bounds), (claims, {key: odd for key in bounds})):
                self.assertIs(is_paper(TRUE["keeps"], value), False)

    def test_papers_of_other_things(self):
        # A paper tells just what is claimed.
        chain = paper_of(("reached", PROGRAM, "f", FORM.terms[0]))
        self.assertIs(is_paper(("reached", PROGRAM, "f", FORM.terms[-1]), chain), False)
        ring = paper_of(TRUE["endless"])
        self.assertIs(is_paper(FALSE["endless"], ring), False)
        self.assertIs(is_paper(("bounded", PROGRAM, "t", either(form_of(PROGRAM, "t"), Form((), (), (((("z", 1),), (), "now", ()), END)))), claim_of(PROGRAM, "t")), True)
        self.assertIs(is_paper(("bounded", PROGRAM, "t", Form((), (), (START, END))), claim_of(PROGRAM, "t")), False)
        self.assertIs(is_paper(("bounded", PROGRAM, "g", Form((), ((),), ())), claim_of(PROGRAM, "t")), False)
        self.assertIs(is_paper(("keeps", HOUSE, SIZES, 20), paper_of(TRUE["keeps"])), True)
        self.assertIs(is_paper(("keeps", HOUSE, {"a": 2, "b": 1}, 9), paper_of(TRUE["keeps"])), False)
        deepest = paper_of(TRUE["exceeds"])
        self.assertIs(is_paper(("exceeds", HOUSE, SIZES, 8), deepest), True)
        self.assertIs(is_paper(("exceeds", HOUSE, SIZES, 9), deepest), False)
        self.assertIs(is_paper(("exceeds", HOUSE, SIZES, 0), deepest), True)
        self.assertIs(is_paper(("no mends", HOUSE, SIZES, 4, 0), (deepest, ())), True)
        self.assertIs(is_paper(("no mends", HOUSE, SIZES, 4, 1), (deepest, ())), False)

    def test_endless_houses(self):
        house = house_of({"u": ("deep", 1, ())}, main=(A,), deep=(A, call("deep")))
        for limit in (0, BIG):
            paper = paper_of(("exceeds", house, {"a": 1}, limit))
            self.is_same((paper[0], is_paper(("exceeds", house, {"a": 1}, limit), paper)), ("u", True))
            self.assertIsNone(paper_of(("keeps", house, {"a": 1}, limit)))
        chain = ((None, 1, (((("main", ()), ((None,), "now")),), ())),)
        self.assertIs(is_paper(("exceeds", house, {"a": 1}, 0), chain), True)
        self.assertIs(is_paper(("exceeds", house, {"a": 1}, 1), chain), False)

    def test_greater_sets(self):
        # A ring for fewer parameters is one for more.
        program = Program([("f", ("c", "d"), (("loop", None, (A, DO_C)),))])
        for returned, holds in (((), False), (("c",), True), (("d",), False), (("c", "d"), True)):
            paper = paper_of(("endless", program, "f", returned))
            self.assertEqual(paper is not None, holds)
            if holds:
                self.assertIs(is_paper(("endless", program, "f", returned), paper), True)

    def test_too_many(self):
        house = house_of({"u": ("nx", 1, ())}, main=(), nx=(*NINE, A), **{letter: () for letter in "cdefghijk"})
        for claimed, name in ((("endless", MANY, "nine", ()), "nine"), (("bounded", MANY, "nine", Form((), ((),), ())), "nine"), (("keeps", house, {"a": 1}, 5), "nx"), (("exceeds", house, {"a": 1}, 5), "nx"),
                              (("no mends", house, {"a": 1}, 5, 1), "nx")):
            self.assertIs(is_claimed(claimed), True)
            self.fails(TooMany, {"name": name}, paper_of, claimed)
        self.fails(TooMany, {"name": "nine"}, is_paper, ("bounded", MANY, "nine", Form((), ((),), ())), None)
        self.fails(TooMany, {"name": "nx"}, is_paper, ("keeps", house, {"a": 1}, 5), None)
        for claimed in (("endless", MANY, "nine", ()), ("exceeds", house, {"a": 1}, 5), ("no mends", house, {"a": 1}, 5, 1)):
            self.assertIs(is_paper(claimed, None), False)
        above = ((("nx", ()), ((None,) * 10, "now")),), tuple(((letter, ()), ((), "end")) for letter in "cdefghijk")
        chain = ((None, 1, (((("main", ()), ((), "now")),), ())), ("u", 1, above))
        self.assertIs(is_paper(("exceeds", house, {"a": 6}, 5), chain), True)
        self.assertIs(is_paper(("no mends", house, {"a": 6}, 5, 0), (chain, ())), True)

    def exclude(self, one, other, holds):
        """Of two things that exclude each other just one has a paper: the first one if it holds."""
        for claimed, wanted in ((one, holds), (other, not holds)):
            self.assertIs(is_claimed(claimed), True)
            paper = paper_of(claimed)
            self.assertEqual(paper is not None, wanted, claimed)
            if wanted:
                self.assertIs(is_paper(claimed, paper), True)
                self.assertTrue(right(claimed, paper))
                self.assertIs(is_paper(other if claimed == one else one, paper), False)

    def test_lines(self):
        chance = random.Random(96)
        for _ in range(300):
            line, *lines = [tuple((frame, chance.randint(1, 4)) for frame in "abc" if chance.random() < .6) for _ in range(chance.randint(1, 5))]
            self.exclude(("covered", line, lines), ("not covered", line, lines), is_covered(line, lines))

    def test_orders(self):
        chance = random.Random(97)
        for forms in some_forms(chance, 40).values():
            for _ in range(100):
                one, other = some_pair(chance, forms)
                self.exclude(("never deeper", one, other), ("deeper", one, other), one.at_most(other))
                context = paper_of(("deeper", one, other))
                if context is not None:
                    self.assertTrue(is_deeper(depth_in(one, context), depth_in(other, context)))

    def test_houses(self):
        chance = random.Random(98)
        counts = {True: 0, False: 0}
        for _ in range(120):
            house = some_house(chance, loops=(1, 2, None), often=.1)
            if house is None:
                continue
            sizes = some_sizes(chance, house.program)
            depth = None if is_endless(house) else greatest_depth(house, sizes)[0]
            for limit in {chance.randint(0, 30), *([] if depth is None else [depth, max(0, depth - 1)])}:
                holds = depth is not None and depth <= limit
                self.exclude(("keeps", house, sizes, limit), ("exceeds", house, sizes, limit), holds)
                counts[holds] += 1
                mends = least_mends(house, sizes, limit)
                for many in range(3):
                    claimed = ("no mends", house, sizes, limit, many)
                    paper = paper_of(claimed)
                    self.assertEqual(paper is None, mends is not None and len(mends) <= many)
                    if paper is not None:
                        self.assertIs(is_paper(claimed, paper), True)
        self.assertGreater(min(counts.values()), 50)

    def test_programs(self):
        chance = random.Random(99)
        for _ in range(100):
            program = Program(some_functions(chance, 4))
            for name in program.names():
                form = form_of(program, name)
                for term in form.terms:
                    claimed = ("reached", program, name, term)
                    self.assertIs(is_paper(claimed, paper_of(claimed)), True)
                params = tuple(sorted(program.params(name)))
                for returned in {(), params, params[:1], params[1:]}:
                    claimed = ("endless", program, name, returned)
                    paper = paper_of(claimed)
                    self.assertEqual(paper is not None, any(set(one) <= set(returned) for one in form.endless))
                    if paper is not None:
                        self.assertIs(is_paper(claimed, paper), True)
                for other in program.names():
                    if form_of(program, other).callbacks == form.callbacks:
                        claimed = ("bounded", program, name, form_of(program, other))
                        paper = paper_of(claimed)
                        self.assertEqual(paper is not None, form.at_most(form_of(program, other)))
                        if paper is not None:
                            self.assertIs(is_paper(claimed, paper), True)


if __name__ == "__main__":
    unittest.main()
