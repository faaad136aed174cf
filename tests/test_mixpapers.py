import random

from nestdeep.errors import InvalidLine, InvalidTerm
from nestdeep.mixes import is_covered, parting_sizes, weights
from nestdeep.mixpapers import is_cover, is_parting, is_parting_of, is_weights
from nestdeep.terms import cover, parting_of
from tests.helpers import BIG, Case, NO_NAMES, ODD_VALUES
from tests.papers import right_cover, right_parting, right_parting_of, right_weights
from tests.test_lines import NO_LINES
from tests.test_mixes import APART, BOTH, COVERED, TWO_A, TWO_B, random_line
from tests.test_terms import F, START, TERMS_APART, TERMS_COVERED, now, random_terms

NO_FRACTIONS = [
    None, True, False, 0, 1, "1", (), (1,), (1, 2, 1), [1, 2], (1, 0), (0, 0), (-1, 2), (1, -2), (-1, -2), (2, 4), (0, 2), (3, 3),
    (True, 2), (1, True), (True, True), ("1", 2), (1, "2"), (None, 1), (1, None), ((1, 2), 1), {1: 2}, (0, -1), (-1, 1),
]


class Weights(Case):
    def test_right_ones(self):
        self.gives(True, is_weights, BOTH, [TWO_A, TWO_B], ((1, 2), (1, 2)))
        self.gives(True, is_weights, (), [TWO_A, ()], ((0, 1), (1, 1)))
        self.gives(True, is_weights, (), [TWO_A, ()], ((1, 7), (6, 7)))
        self.gives(True, is_weights, (("a", 1),), (TWO_A, TWO_B), ((2, 3), (1, 3)))
        self.gives(True, is_weights, (("a", BIG),), [(("a", 2 * BIG),), ()], ((BIG, 2 * BIG - 1), (BIG - 1, 2 * BIG - 1)))
        self.gives(True, is_weights, TWO_A, [TWO_A, TWO_A, TWO_A], ((1, 3), (1, 6), (1, 2)))
        self.is_same(is_weights(line=TWO_A, lines=[TWO_A], paper=((1, 1),)), True)
        for line, lines in COVERED:
            self.gives(True, is_weights, line, lines, weights(line, lines))

    def test_wrong_kinds(self):
        for paper in [*ODD_VALUES, [(1, 2), (1, 2)], ((1, 2),), ((1, 2), (1, 2), (0, 1)), ([1, 2], [1, 2]), {0: (1, 2)}]:
            self.assertIs(is_weights(BOTH, [TWO_A, TWO_B], paper), False, paper)
        for wrong in NO_FRACTIONS:
            self.assertIs(is_weights((), [(), TWO_A], ((1, 1), wrong)), False, wrong)
            self.assertIs(is_weights((), [(), TWO_A], (wrong, (1, 1))), False, wrong)
            self.assertIs(is_weights((), [()], (wrong,)), False, wrong)

    def test_wrong_numbers(self):
        for paper in (((1, 3), (1, 2)), ((1, 2), (2, 3)), ((1, 1), (0, 1)), ((1, 3), (2, 3)), ((0, 1), (0, 1)), ((3, 2), (-1, 2)),
                      ((1, 1), (1, 1)), ((2, 4), (1, 2))):
            self.assertIs(is_weights(BOTH, [TWO_A, TWO_B], paper), False, paper)
        for paper in (((3, 2), (-1, 2)), ((2, 1), (-1, 1)), ((-1, 3), (4, 3))):
            self.assertIs(is_weights((), [TWO_A, TWO_B], paper), False, paper)
            self.assertIs(is_weights((("a", 1),), [TWO_A, TWO_A], paper), False, paper)
        half = BIG // 2
        self.assertIs(is_weights((("a", BIG),), [(("a", 2 * BIG),), ()], ((half, BIG), (BIG - half, BIG))), False)

    def test_without_lines(self):
        for paper in ((), ((1, 1),), ((0, 1),), None, []):
            self.assertIs(is_weights((), [], paper), False)

    def test_wrong_lines(self):
        for value in NO_LINES:
            self.fails(InvalidLine, {"value": value}, is_weights, value, [7], None)
            self.fails(InvalidLine, {"value": value}, is_weights, (), [(), value, 7], ((1, 1),))

    def test_random(self):
        source = random.Random(13)
        for _ in range(400):
            lines = [random_line(source, "ab", 3) for _ in range(source.randint(1, 3))]
            line, bottom = random_line(source, "ab", 3), source.randint(1, 4)
            paper = tuple((source.randint(0, bottom), bottom) for _ in lines)
            self.is_same(is_weights(line, lines, paper), right_weights(line, lines, paper))


class Parting(Case):
    LINE, LINES = (("a", 1), ("b", 2)), [TWO_A, TWO_B, (("c", 1),)]

    def test_right_ones(self):
        self.gives(True, is_parting, self.LINE, self.LINES, {"a": 2, "b": 2, "c": 1})
        self.gives(True, is_parting, self.LINE, self.LINES, {"c": 5, "a": 2, "b": 2, "d": 7, "zz": BIG})
        self.gives(True, is_parting, (), [], {})
        self.gives(True, is_parting, TWO_A, (), {"a": 1})
        self.gives(True, is_parting, (), (), {"x": 5})
        self.is_same(is_parting(line=TWO_A, lines=[()], paper={"a": 1}), True)
        for line, lines in APART:
            self.gives(True, is_parting, line, lines, parting_sizes(line, lines))

    def test_wrong_kinds(self):
        for paper in [*[value for value in ODD_VALUES], [("a", 2), ("b", 2), ("c", 1)], (("a", 2), ("b", 2), ("c", 1))]:
            self.assertIs(is_parting(self.LINE, self.LINES, paper), False, paper)
        right = {"a": 2, "b": 2, "c": 1}
        for frame in "abc":
            self.assertIs(is_parting(self.LINE, self.LINES, {name: right[name] for name in right if name != frame}), False)
            for wrong in (0, -1, True, None, "1", (1,), object()):
                self.assertIs(is_parting(self.LINE, self.LINES, {**right, frame: wrong}), False)
                self.assertIs(is_parting(self.LINE, self.LINES, {**right, "d": wrong}), False)
        for name in NO_NAMES:
            if not isinstance(name, (list, dict, set)):
                self.assertIs(is_parting(self.LINE, self.LINES, {**right, name: 1}), False, name)
        self.assertIs(is_parting(TWO_A, [], {}), False)
        self.assertIs(is_parting((), [], {"x": 0}), False)
        self.assertIs(is_parting((), [], None), False)

    def test_wrong_numbers(self):
        for a, b, c in ((1, 1, 3), (2, 1, 1), (4, 2, 1), (2, 2, 6), (1, 1, 4)):
            wanted = a + 2 * b > max(2 * a, 2 * b, c)
            self.assertIs(is_parting(self.LINE, self.LINES, {"a": a, "b": b, "c": c}), wanted)
        self.assertIs(is_parting(self.LINE, self.LINES, {"a": 2, "b": 1, "c": 1}), False)
        self.assertIs(is_parting((), [()], {}), False)
        self.assertIs(is_parting(TWO_A, [TWO_A], {"a": 1}), False)

    def test_wrong_lines(self):
        for value in NO_LINES:
            self.fails(InvalidLine, {"value": value}, is_parting, value, [7], None)
            self.fails(InvalidLine, {"value": value}, is_parting, (), [(), value, 7], {"a": 1})

    def test_random(self):
        source = random.Random(14)
        for _ in range(400):
            lines = [random_line(source, "abc", 3) for _ in range(source.randint(0, 2))]
            line = random_line(source, "abc", 4)
            paper = {frame: source.randint(1, 3) for frame in "abc" if source.random() < 0.9}
            self.is_same(is_parting(line, lines, paper), right_parting(line, lines, paper))
            self.is_same(parting_sizes(line, lines) is None, is_covered(line, lines))


class Covers(Case):
    TERM, TERMS = now(BOTH, "uv", "c"), [now(TWO_A, "u"), now(TWO_B, "v"), now(TWO_A, "w"), now(TWO_A, tag="end"),
                                         now(TWO_A, "", (F,)), now(TWO_B, "", "c")]

    def test_right_ones(self):
        self.gives(True, is_cover, self.TERM, self.TERMS, {self.TERMS[0]: (1, 2), self.TERMS[1]: (1, 2)})
        self.gives(True, is_cover, self.TERM, self.TERMS, {self.TERMS[5]: (1, 2), self.TERMS[0]: (1, 2)})
        self.gives(True, is_cover, self.TERM, tuple(self.TERMS),
                   {self.TERMS[5]: (1, 4), self.TERMS[0]: (1, 2), self.TERMS[1]: (1, 4)})
        self.gives(True, is_cover, START, [START, START], {START: (1, 1)})
        self.is_same(is_cover(term=START, terms=[START], paper={START: (1, 1)}), True)
        for term, terms in TERMS_COVERED:
            self.gives(True, is_cover, term, terms, cover(term, terms))

    def test_wrong_kinds(self):
        one, two = self.TERMS[:2]
        for paper in [*ODD_VALUES, ((one, (1, 2)), (two, (1, 2))), [one, two], ((1, 2), (1, 2))]:
            self.assertIs(is_cover(self.TERM, self.TERMS, paper), False, paper)
        for wrong in [*NO_FRACTIONS, (0, 1)]:
            self.assertIs(is_cover(START, [START, now((), tag="end")], {START: wrong}), False, wrong)
            self.assertIs(is_cover(self.TERM, self.TERMS, {one: (1, 2), two: (1, 2), self.TERMS[5]: wrong}), False, wrong)

    def test_wrong_terms_in_papers(self):
        one, two = self.TERMS[:2]
        half = (1, 2)
        for other in [*self.TERMS[2:5], now(TWO_A), now(TWO_A, "v"), None, 0, "now", (), one[:3], now((("a", 3),), "u")]:
            self.assertIs(is_cover(self.TERM, self.TERMS, {other: half, two: half}), False, other)
            self.assertIs(is_cover(self.TERM, self.TERMS, {one: (1, 4), other: (1, 4), two: half}), False, other)
        small = now((("a", 1),))
        self.assertIs(is_cover(small, [small], {small: (1, 1)}), True)
        self.assertIs(is_cover(small, [small], {now((("a", True),)): (1, 1)}), False)

    def test_wrong_numbers(self):
        one, two = self.TERMS[:2]
        for first, second in (((1, 3), (1, 2)), ((1, 3), (2, 3)), ((1, 1), (1, 1)), ((2, 4), (1, 2)), ((3, 2), (-1, 2))):
            self.assertIs(is_cover(self.TERM, self.TERMS, {one: first, two: second}), False)
        self.assertIs(is_cover(self.TERM, self.TERMS, {one: (1, 1)}), False)
        for first, second in (((3, 2), (-1, 2)), ((1, 1), (0, 1)), ((-1, 1), (2, 1))):
            self.assertIs(is_cover(now((), "uv"), self.TERMS, {one: first, two: second}), False)
        self.assertIs(is_cover(START, [], {}), False)
        self.assertIs(is_cover(START, [START], {}), False)

    def test_random(self):
        source, seen = random.Random(15), [0, 0]
        for _ in range(600):
            terms = [term[:2] + ("now",) + term[3:] for term in random_terms(source, source.randint(1, 3))]
            term = (random_line(source, "ab", 2), ("u", "v"), "now", ("c", F))
            paper = {other: source.choice([(1, 1), (1, 2), (1, 2), (1, 3), (2, 3)]) for other in terms}
            self.is_same(is_cover(term, terms, paper), right_cover(term, terms, paper))
            seen[right_cover(term, terms, paper)] += 1
        self.assertGreater(min(seen), 50)

    def test_wrong_terms(self):
        for value in [*ODD_VALUES, list(START), now((), ("v", "u"))]:
            for action in (is_cover, is_parting_of):
                self.fails(InvalidTerm, {"value": value}, action, value, [7], {})
                self.fails(InvalidTerm, {"value": value}, action, START, [START, value, 7], {})


class PartingOf(Case):
    def test_right_ones(self):
        term = now((("a", 1), ("b", 2)), "u", "c")
        terms = [now(TWO_A, "u"), now(TWO_B, "", "c"), now((("a", 99),), "v"), now((("a", 99),), tag="end"), now((("b", 99),), "", (F,))]
        self.gives(True, is_parting_of, term, terms, {"a": 1, "b": 1})
        self.gives(True, is_parting_of, term, tuple(terms), {"b": 3, "a": 5, "d": 1})
        self.gives(False, is_parting_of, term, terms, {"a": 2, "b": 1})
        self.gives(False, is_parting_of, term, [*terms, now((("a", 99),))], {"a": 1, "b": 1})
        self.gives(True, is_parting_of, START, [], {})
        self.gives(False, is_parting_of, START, [START], {})
        self.is_same(is_parting_of(term=START, terms=[], paper={}), True)
        for one, rows in TERMS_APART:
            self.gives(True, is_parting_of, one, rows, parting_of(one, rows))

    def test_only_the_frames_of_terms_that_can_cover_are_asked(self):
        term, terms = now((("a", 2),), "u"), [now((("a", 1),)), now((("x", 1),), "v"), now((("y", 1),), tag="end")]
        self.assertIs(is_parting_of(term, terms, {"a": 1}), True)
        self.assertIs(is_parting_of(term, [*terms, now((("z", 1),), "u")], {"a": 1}), False)
        self.assertIs(is_parting_of(term, [*terms, now((("z", 1),), "u")], {"a": 1, "z": 1}), True)

    def test_wrong_kinds(self):
        term, terms = now(TWO_A), [now((("b", 1),))]
        for paper in [value for value in ODD_VALUES] + [(("a", 1), ("b", 1)), {"a": 1}, {"b": 1}, {"a": 1, "b": 2},
                                                        {"a": True, "b": 1}, {"a": 1, "b": True}, {"a": 1, "b": 1, "c": 0},
                                                        {"a": 1, "b": 1, "A": 1}, {"a": 1, "b": 1, 5: 1}, {"a": "1", "b": 1}]:
            self.assertIs(is_parting_of(term, terms, paper), False, paper)
        self.assertIs(is_parting_of(term, terms, {"a": 1, "b": 1}), True)

    def test_random(self):
        source = random.Random(16)
        for _ in range(400):
            terms, term = random_terms(source, source.randint(0, 4)), random_terms(source, 1)[0]
            paper = {frame: source.randint(1, 3) for frame in "ab" if source.random() < 0.9}
            self.is_same(is_parting_of(term, terms, paper), right_parting_of(term, terms, paper))
