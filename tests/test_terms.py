import random

from nestdeep.errors import InvalidTerm
from nestdeep.terms import (
    cover, in_order, is_covered_term, is_term, least_sets, least_terms, parting_of, put_on,
)
from tests.helpers import BIG, Case, NAMES, NO_NAMES, ODD_VALUES
from tests.papers import right_cover, right_parting_of
from tests.test_lines import LINES, NO_LINES

TWO_A, TWO_B, BOTH = (("a", 2),), (("b", 2),), (("a", 1), ("b", 1))
F, G, H = ("f", ()), ("g", ("x",)), ("g", ("x", "y"))
START = ((), (), "now", ())
TAGS = ["now", "end", "a", "c", "abcdefgh", F, G, H, ("f", ("f", "f"))]
NO_TAGS = [value for value in NO_NAMES if value not in ("now", "end")] + [
    "room", ("f",), ("f", ["x"]), ["f", ()], ("f", (), ()), ("f", "x"), ("f", ("x", "y", "z")), ("F", ()), ("f", (1,)),
    ("loop", ()), ("f", ("do",)), ("f", (True,)), ((), ()), (None, ()), ("f", None), (("f", ()),), ("now", ()), ("f", ("end",)),
]
SHUTS = [(), ("u",), ("u", "v"), tuple("abcdefgh")]
NO_SHUTS = [None, True, 0, "u", ["u"], [], {"u"}, {}, ("v", "u"), ("u", "u"), ("U",), (1,), (None,), (("u",),), ("",), ("take",),
            ("u", True), ("u", "w", "v"), (["u"],)]
SETS = [(), ("c",), ("c", "d"), (F,), ("c", F), ("x", "y", ("a", ()), F, G, H), (("f", ()), ("f", ("a",)), ("f", ("a", "b")))]
NO_SETS = [None, True, 0, "c", ["c"], [], {"c"}, {}, ("d", "c"), ("c", "c"), (F, "c"), (G, F), (H, G), (F, F), (1,), (None,), ("C",),
           ("now",), ("end",), (("f",),), (["f", ()],), (("f", []),), ("c", True), (("f", ("x", "y", "z")),), ("c", "e", "d"),
           (("f", ("a", "b")), ("f", ("a",)))]


def now(line, shut=(), returned=(), tag="now"):
    return (line, tuple(shut), tag, tuple(returned))


TERMS_COVERED = [
    (START, [START]), (now((), "u", "c"), [START]), (now(BOTH), [now(TWO_A), now(TWO_B)]),
    (now(BOTH, "uv", "c"), [now(TWO_A, "u"), now(TWO_B, "v")]),
    (now(BOTH, "uv", ("c", F)), [now(TWO_A, "u", (F,)), now(TWO_B, "v", "c"), now((("a", 50),), "w")]),
    (now((("a", 1),), tag="end"), [now(TWO_A), now(TWO_A, tag="end")]), (now(TWO_A, tag=F), [now(TWO_A, tag=F)]),
    (now((("a", BIG),), "u"), [now((("a", BIG),), "u")] * 3),
    (now(BOTH), [now(TWO_A), now(TWO_A), now(TWO_B), now(TWO_B)]),
]
TERMS_APART = [
    (START, []), (START, [now((), tag="end")]), (START, [now((), "u")]), (START, [now((), (), "c")]),
    (now(BOTH, "u"), [now(TWO_A, "u"), now(TWO_B, "v")]), (now(BOTH, "uv"), [now(TWO_A, "u", "c"), now(TWO_B, "v")]),
    (now(BOTH), [now(TWO_A), now(TWO_B, tag="end")]), (now((("a", 3),)), [now(TWO_A)]), (now((), tag=F), [now((), tag=G), START]),
    (now((("a", 1), ("b", 2)), "u", "c"), [now(TWO_A, "u", "c"), now(TWO_B, "", "c")]),
    (now((), (), (F,)), [now((), (), ("c",))]), (now((), (), tag="f"), [now((), tag=F)]),
]


class IsTerm(Case):
    def test_terms(self):
        for line in LINES:
            for shut in SHUTS:
                for tag in TAGS:
                    for returned in SETS:
                        self.assertIs(is_term((line, shut, tag, returned)), True)
        for name in NAMES:
            self.assertIs(is_term(((), (name,), name, (name,))), True)
            self.assertIs(is_term(((), (), (name, (name,)), ((name, (name, name)),))), True)
        self.assertIs(is_term(value=START), True)

    def test_others(self):
        for value in [*ODD_VALUES, list(START), START[:3], (*START, ()), [START], "term", ((), (), ("now",), ())]:
            self.assertIs(is_term(value), False, value)
        for line in NO_LINES:
            self.assertIs(is_term((line, (), "now", ())), False, line)
        for shut in NO_SHUTS:
            self.assertIs(is_term(((), shut, "now", ())), False, shut)
        for tag in NO_TAGS:
            self.assertIs(is_term(((), (), tag, ())), False, tag)
        for returned in NO_SETS:
            self.assertIs(is_term(((), (), "now", returned)), False, returned)

    def test_many_callbacks(self):
        self.assertIs(is_term(now((), (), tuple("abcdefgh"))), True)


class Order(Case):
    ORDERED = [
        now(()), now((), ("u",)), now((), ("u", "v")), now((), ("v",)), now((("a", 1),)), now((("a", 1), ("b", 1))),
        now((("a", 2),), (), ("c",)), now((("a", 2),), (), ("c", "d")), now((("a", 2),), (), ("c", F)),
        now((("a", 2),), (), ("d",)), now((("a", 2),), (), (F,)), now((("a", 2),), (), (F, G)), now((("a", 2),), (), (G,)),
        now((("a", 2),), ("u",)), now((("a", 10),)), now((("b", 1),)),
        now((), tag="end"), now((("z", 9),), tag="end"), now((), tag="a"), now((("a", 5),), tag="a"), now((), ("u",), tag="zz"),
        now((), tag=("a", ())), now((), tag=("f", ())), now((), tag=("f", ("a",))), now((), tag=("f", ("a", "b"))),
        now((), tag=("f", ("b",))), now((), tag=("fa", ())), now((), (), (("a", ()),), ("g", ())),
    ]

    def test_in_order(self):
        source = random.Random(2)
        for _ in range(30):
            mixed = list(self.ORDERED)
            source.shuffle(mixed)
            self.gives(self.ORDERED, in_order, mixed)
            self.gives(self.ORDERED, in_order, tuple(mixed))
        self.gives([], in_order, [])
        self.gives([], in_order, ())
        self.is_same(in_order(terms=[START]), [START])

    def test_a_new_list(self):
        terms = [START]
        self.assertIsNot(in_order(terms), terms)
        in_order(terms).clear()
        self.is_same(terms, [START])

    def test_wrong_terms(self):
        for value in [*ODD_VALUES, list(START), ((), ("v", "u"), "now", ()), ((("a", True),), (), "now", ())]:
            for action in (in_order, least_terms):
                self.fails(InvalidTerm, {"value": value}, action, [START, value, None])
                self.fails(InvalidTerm, {"value": value}, action, (value,))


class Covered(Case):
    def test_covered(self):
        for term, terms in TERMS_COVERED:
            for rows in (terms, terms[::-1], tuple(terms)):
                self.gives(True, is_covered_term, term, rows)
                self.gives(None, parting_of, term, rows)
                paper = cover(term, rows)
                self.assertTrue(right_cover(term, rows, paper), (term, rows, paper))
                self.assertEqual(cover(term, rows), paper)
                self.assertIsNot(cover(term, rows), paper)

    def test_apart(self):
        for term, terms in TERMS_APART:
            for rows in (terms, terms[::-1], tuple(terms)):
                self.gives(False, is_covered_term, term, rows)
                self.gives(None, cover, term, rows)
                paper = parting_of(term, rows)
                self.assertTrue(right_parting_of(term, rows, paper), (term, rows, paper))
                self.assertEqual(parting_of(term, rows), paper)

    def test_the_example(self):
        term, terms = now(BOTH, "uv", "c"), [now(TWO_A, "u"), now(TWO_B, "v")]
        self.assertEqual(cover(term, terms), {terms[0]: (1, 2), terms[1]: (1, 2)})

    def test_weights_above_zero(self):
        terms = [now(TWO_A), START, now(TWO_B), now((("c", 9),))]
        self.assertEqual(cover(now(BOTH), terms), {now(TWO_A): (1, 2), now(TWO_B): (1, 2)})
        self.assertEqual(cover(now(TWO_A, "u"), terms), {now(TWO_A): (1, 1)})

    def test_by_names(self):
        self.is_same(is_covered_term(term=START, terms=[START]), True)
        self.assertEqual(cover(term=START, terms=[START]), {START: (1, 1)})
        self.assertIsNone(parting_of(term=START, terms=[START]))

    def test_random(self):
        source, seen = random.Random(7), [0, 0]
        for _ in range(400):
            terms = random_terms(source, source.randint(0, 20))
            term = random_terms(source, 1)[0]
            covered = is_covered_term(term, terms)
            seen[covered] += 1
            if covered:
                self.assertTrue(right_cover(term, terms, cover(term, terms)))
                self.assertIsNone(parting_of(term, terms))
            else:
                self.assertTrue(right_parting_of(term, terms, parting_of(term, terms)))
                self.assertIsNone(cover(term, terms))
        self.assertGreater(min(seen), 50)

    def test_wrong_terms(self):
        wrong = [*ODD_VALUES, list(START), ((), ("v", "u"), "now", ()), ((("a", True),), (), "now", ()), ((), (), "now", (F, "c"))]
        for value in wrong:
            for action in (is_covered_term, cover, parting_of):
                self.fails(InvalidTerm, {"value": value}, action, value, [START])
                self.fails(InvalidTerm, {"value": value}, action, value, [7])
                self.fails(InvalidTerm, {"value": value}, action, START, [START, value, 7])
                self.fails(InvalidTerm, {"value": value}, action, START, (value,))


def random_terms(source, number):
    terms = []
    for _ in range(number):
        line = tuple((frame, source.randint(1, 4)) for frame in "ab" if source.random() < 0.7)
        shut = tuple(interrupt for interrupt in "uv" if source.random() < 0.5)
        returned = tuple(callback for callback in ("c", F) if source.random() < 0.4)
        terms.append((line, shut, source.choice(["now", "now", "end", "c", F]), returned))
    return terms


class Least(Case):
    def test_least_terms(self):
        for wanted, terms in [
            ([], []), ([START], [START]), ([START], [START, START]), ([START], [START, now((), "u"), now((), (), "c")]),
            ([now(TWO_A), now(TWO_B)], [now(TWO_B), now(BOTH), now(TWO_A), START]),
            ([now(TWO_A, "u"), now(TWO_B, "v")], [now(BOTH, "uv", "c"), now(TWO_A, "u"), now(TWO_B, "v")]),
            ([now(BOTH, "u"), now(TWO_A, "u"), now(TWO_B, "v")], [now(BOTH, "u"), now(TWO_A, "u"), now(TWO_B, "v")]),
            ([START, now((), tag="end"), now((), tag="c"), now((), tag=F)],
             [now((), tag=F), now((), tag="c"), now((), tag="end"), START, now((), "u", tag=F), now((), (), "c", tag="c")]),
            ([now((("a", 1),)), now(TWO_A, "u"), now((("a", 3),), "u", "c")],
             [now((("a", 3),), "u", "c"), now(TWO_A, "u"), now((("a", 1),)), now((("a", 1),), "u"), now(TWO_A, "uv", "c")]),
        ]:
            for rows in (terms, terms[::-1], tuple(terms + terms)):
                self.gives(tuple(wanted), least_terms, rows)
        self.is_same(least_terms(terms=[START]), (START,))

    def test_random_terms(self):
        source = random.Random(9)
        for _ in range(60):
            terms = random_terms(source, source.randint(1, 14))
            found = least_terms(terms)
            other = [term for term in dict.fromkeys(in_order(terms))
                     if not is_covered_term(term, [one for one in terms if one != term])]
            self.is_same(found, tuple(other))
            for term in terms:
                self.assertTrue(is_covered_term(term, found))
            for term in found:
                self.assertFalse(is_covered_term(term, [one for one in found if one != term]))
            source.shuffle(terms)
            self.is_same(least_terms(terms), found)

    def test_least_sets(self):
        for wanted, sets in [
            ((), []), (((),), [()]), (((),), [("c",), (), ("c", F)]), ((("c",), ("d",)), [("d",), ("c",), ("c", "d")]),
            ((("c",),), [("c",), ("c",)]), ((("d",), (F,), ("b", "c")), [("b", "c"), (F,), ("d",), ("c", "d"), ("b", F)]),
            ((("a", "b"), ("a", F), ("b", F), (F, G)), [(F, G), ("b", F), ("a", F), ("a", "b")]),
            ((("z",), (F,)), [(F,), ("z",), ("z", F)]), ((("b", "c", "d"),), [("b", "c", "d"), ("a", "b", "c", "d")]),
            ((("f",), (F,), (("f", ("a",)),), (G,)), [(G,), (("f", ("a",)),), (F,), ("f",)]),
        ]:
            for rows in (sets, sets[::-1], tuple(sets)):
                self.gives(tuple(wanted), least_sets, rows)
        self.is_same(least_sets(sets=[("c",)]), (("c",),))

    def test_random_sets(self):
        source = random.Random(1)
        callbacks = ("a", "b", "d", F, G)
        for _ in range(100):
            sets = [tuple(callback for callback in callbacks if source.random() < 0.5) for _ in range(source.randint(1, 8))]
            found = least_sets(sets)
            self.assertEqual(set(found), {one for one in sets if not any(set(other) < set(one) for other in sets)})
            self.assertEqual(len(found), len(set(found)))
            places = [(len(one), [callbacks.index(callback) for callback in one]) for one in found]
            self.assertEqual(places, sorted(places))


class PutOn(Case):
    def test_put_on(self):
        first, second = ((("a", 1), ("b", 2)), ("v",), "end", ("d", F)), ((("a", BIG),), ("u", "v"), G, ("c", ("a", ())))
        self.gives(((("a", BIG + 1), ("b", 2)), ("u", "v"), G, ("c", "d", ("a", ()), F)), put_on, first, second)
        self.gives(((("a", BIG + 1), ("b", 2)), ("u", "v"), "end", ("c", "d", ("a", ()), F)), put_on, second, first)
        self.gives(START, put_on, START, START)
        self.gives(START, put_on, now((), tag="end"), START)
        self.gives(now((("a", 2),), "u", "c"), put_on, now((("a", 1),), "u", "c"), now((("a", 1),), "u", "c"))
        self.is_same(put_on(first=START, second=now((), tag="c")), now((), tag="c"))
        self.is_same(put_on(second=START, first=now((), tag="c")), START)

    def test_wrong_terms(self):
        for value in [*ODD_VALUES, list(START), ((), (), "now", ("d", "c"))]:
            self.fails(InvalidTerm, {"value": value}, put_on, value, 7)
            self.fails(InvalidTerm, {"value": value}, put_on, START, value)
