import random
import unittest

from nestdeep.bodies import body_form
from nestdeep.errors import InvalidBody, InvalidWay, TooMany, UnknownTerm
from nestdeep.ways import reach, way_to
from tests.helpers import BIG, ODD_VALUES, Case
from tests.reached import choices_in_turn, some_body
from tests.test_bodies import curve

A, B, U, C, D, STOP = ("take", 1, "a"), ("take", 1, "b"), ("shut", ("u",)), ("do", "c"), ("do", "d"), ("stop",)
G = ("call", "g", ("c",))
MOST = 10 ** 12
EMPTY = ((), "end")


class Reach(Case):
    def reaches(self, term, body, way):
        self.gives(term, reach, body, way)

    def test_plain_statements(self):
        body = (A, U, C, G, A)
        self.reaches(((), (), "now", ()), body, ((), "now"))
        self.reaches(((("a", 1),), (), "now", ()), body, ((None,), "now"))
        self.reaches(((("a", 1),), ("u",), "now", ()), body, ((None, None), "now"))
        self.reaches(((("a", 1),), ("u",), "c", ()), body, ((None, None), "call"))
        self.reaches(((("a", 1),), ("u",), ("g", ("c",)), ("c",)), body, ((None,) * 3, "call"))
        self.reaches(((("a", 1),), ("u",), "now", ("c", ("g", ("c",)))), body, ((None,) * 4, "now"))
        self.reaches(((("a", 2),), ("u",), "end", ("c", ("g", ("c",)))), body, ((None,) * 5, "end"))
        self.reaches(((("a", 2),), ("u",), "now", ("c", ("g", ("c",)))), body, ((None,) * 5, "now"))
        self.reaches(((), (), "end", ()), (), EMPTY)
        self.reaches(((), (), "now", ()), (), ((), "now"))
        self.reaches(((), (), "end", ("c",)), (C, C), ((None, None), "end"))

    def test_what_has_returned_comes_in_callback_order(self):
        body = (("call", "z", ()), ("call", "g", ("c", "c")), D, G, C)
        self.reaches(((), (), "end", ("c", "d", ("g", ("c",)), ("g", ("c", "c")), ("z", ()))), body, ((None,) * 5, "end"))

    def test_rooms(self):
        body = (("room", (A, U, C)), B)
        through = ((None,) * 3, "end")
        self.reaches(((), (), "now", ("c",)), body, ((through,), "now"))
        self.reaches(((("b", 1),), (), "end", ("c",)), body, ((through, None), "end"))
        self.reaches(((("a", 1),), ("u",), "c", ()), body, ((), ((None, None), "call")))
        self.reaches(((("a", 1),), ("u",), "now", ("c",)), body, ((), ((None,) * 3, "now")))
        self.reaches(((), (), "now", ()), (("room", (("room", ()),)),), ((), ((), ((), "now"))))

    def test_eithers(self):
        body = (("either", (A,), (B, C)), U)
        self.reaches(((("a", 1),), ("u",), "end", ()), body, (((0, ((None,), "end")), None), "end"))
        self.reaches(((("b", 1),), (), "now", ("c",)), body, (((1, ((None, None), "end")),), "now"))
        self.reaches(((("b", 1),), (), "c", ()), body, ((), (1, ((None,), "call"))))
        self.reaches(((), (), "now", ()), body, ((), (0, ((), "now"))))

    def test_loops(self):
        body = (("loop", 5, (A, U, C)), B)
        through = ((None,) * 3, "end")
        self.reaches(((("b", 1),), (), "end", ()), body, (((), None), "end"))
        self.reaches(((("a", 5), ("b", 1)), ("u",), "end", ("c",)), body, ((((5, through),), None), "end"))
        self.reaches(((("a", 5),), ("u",), "now", ("c",)), body, ((((2, through), (3, through)),), "now"))
        self.reaches(((("a", 5),), ("u",), "c", ("c",)), body, ((), (((4, through),), ((None, None), "call"))))
        self.reaches(((("a", 1),), ("u",), "c", ()), body, ((), ((), ((None, None), "call"))))
        self.reaches(((("a", 4),), ("u",), "now", ("c",)), body, ((), (((1, through), (3, through)), ((), "now"))))
        self.reaches(((("a", BIG),), ("u",), "end", ("c",)), (("loop", None, (A, U, C)),), ((((BIG, through),),), "end"))

    def test_unequal_rounds(self):
        body = (("loop", 9, (("either", (A,), (U, C)),)),)
        left, right = (((0, ((None,), "end")),), "end"), (((1, ((None, None), "end")),), "end")
        self.reaches(((("a", 7),), ("u",), "end", ("c",)), body, ((((4, left), (2, right), (3, left)),), "end"))

    def test_within_a_statement_of_a_statement(self):
        body = (A, ("loop", None, (("either", (("room", (B, ("loop", 2, (C, U)))),), ()),)), STOP)
        inner = ((None, None), "end")
        room = ((None, ((1, inner),)), "end")
        rounds = ((7, (((0, ((room,), "end")),), "end")),)
        stop = (rounds, ((), (0, ((), ((None,), (((1, inner),), ((), "call")))))))
        self.reaches(((("a", 1), ("b", 1)), ("u",), "c", ("c",)), body, ((None,), stop))

    def test_at_a_stop(self):
        self.reaches(((("a", 1),), (), "now", ()), (A, STOP, B), ((None,), "now"))
        for way in (((None, None), "now"), ((None, None, None), "end"), ((None,), "end"), ((None,), "call")):
            self.fails(InvalidWay, {"value": way}, reach, (A, STOP, B), way)

    def test_more_callbacks_and_terms_than_a_form_can_have(self):
        body = tuple(("do", name) for name in "abcdefghi")
        self.reaches(((), (), "end", tuple("abcdefghi")), body, ((None,) * 9, "end"))
        self.gives("now", lambda: reach(curve(40), ((), "now"))[2])

    def test_wrong_bodies(self):
        self.fails(InvalidBody, {"place": (0,)}, reach, (None,), None)
        self.fails(InvalidBody, {"place": ()}, reach, [A], ((), "now"))
        self.fails(InvalidBody, {"place": (1, 0, 0)}, reach, (A, ("room", (("take", 0, "a"),))), None)

    def test_values_of_other_kinds(self):
        for body in ((), (A,), (("room", ()),), (("loop", 2, ()),), (("either", (), ()),)):
            for value in ODD_VALUES:
                self.assert_none(body, value)
                self.assert_none(body, ((), value))
                if not isinstance(value, tuple):
                    self.assert_none(body, (value, "end"))
                    self.assert_none(body, (value, "now"))
                if not (body == (A,) and value is None) and not (body == (("loop", 2, ()),) and value == ()):
                    self.assert_none(body, ((value,), "end"))
                    self.assert_none(body, ((value,), "now"))

    def assert_none(self, body, value):
        if value == ((), "now"):
            return
        with self.assertRaises(InvalidWay) as caught:
            reach(body, value)
        self.assertIs(caught.exception.value, value)

    def test_no_ways(self):
        through = ((None,), "end")
        room, either, loop = ("room", (A,)), ("either", (A,), ()), ("loop", 3, (A,))
        for body, way in (
            ((A,), ((None, None), "end")), ((A,), ((), "end")), ((A,), ((None, None), "now")), ((A,), ((True,), "end")), ((A,), (((),), "end")),
            ((A,), ((), "call")), ((A,), ((None,), "call")), ((C,), ((None,), "call")), ((A,), ([None], "end")), ((A,), [(None,), "end"]),
            ((A,), ((None,), "End")), ((A,), ((None,), "now", ())), ((A,), ((None,),)), ((), ((), "call")), ((), ((), EMPTY)), ((A,), ((), EMPTY)),
            ((C,), ((("c",),), "end")), ((U,), (("u",), "end")), ((C,), ((), "later")), ((C,), ((), "")), ((C,), ((), "end")), ((C,), ((), "c")),
            ((room,), ((None,), "end")), ((room,), ((EMPTY,), "end")), ((room,), ((((None,), "now"),), "end")), ((room,), ((), through)),
            ((room,), ((), EMPTY)), ((room,), (([(None,), "end"],), "end")), ((room,), ((through,), ((None,), "now"))), ((room,), ((), "call")),
            ((room,), ((), (0, ((), "now")))),
            ((either,), ((through,), "end")), ((either,), (((2, through),), "end")), ((either,), (((-1, through),), "end")),
            ((either,), (((True, EMPTY),), "end")), ((either,), (((False, through),), "end")), ((either,), (((1, through),), "end")),
            ((either,), (((0, EMPTY),), "end")), ((either,), ((([0, through]),), "end")), ((either,), (((0, ((None,), "now")),), "end")),
            ((either,), ((), (0, through))), ((either,), ((), (True, ((), "now")))), ((either,), ((), ((), "now"))), ((either,), (((0, through, 1),), "end")),
            ((loop,), ((None,), "end")), ((loop,), ((((4, through),),), "end")), ((loop,), ((((2, through), (2, through)),), "end")),
            ((loop,), ((((0, through),),), "end")), ((loop,), ((((-1, through),),), "end")), ((loop,), ((((True, through),),), "end")),
            ((loop,), ((((1, EMPTY),),), "end")), ((loop,), ((((1, ((None,), "now")),),), "end")), ((loop,), (([(1, through)],), "end")),
            ((loop,), ((([1, through],),), "end")), ((loop,), ((((1, through, 1),),), "end")), ((loop,), ((((None, through),),), "end")),
            ((loop,), (((1, through),), "end")), ((loop,), ((), (((3, through),), ((), "now")))), ((loop,), ((), (((2, through), (1, through)), ((), "now")))),
            ((loop,), ((), ((), through))), ((loop,), ((), ((), EMPTY))), ((loop,), ((), ((), ((), "now"), 1))), ((loop,), ((), [(), ((), "now")])),
            ((loop,), ((), (None, ((), "now")))), ((loop,), ((), (((1, ((None,), "call")),), ((), "now")))),
        ):
            self.fails(InvalidWay, {"value": way}, reach, body, way)


class WayTo(Case):
    def test_each_term_of_a_form(self):
        chance = random.Random(2)
        for _ in range(400):
            body = some_body(chance, most=4, loops=(1, 2, 7, MOST, None))
            for term in body_form(body).terms:
                self.is_same(reach(body, way_to(body, term)), term, body)

    def test_choices_in_turn(self):
        """Many ends, which differ in what is taken, what is shut and what has returned."""
        chance = random.Random(9)
        for _ in range(100):
            body = choices_in_turn(chance)
            try:
                terms = body_form(body).terms
            except TooMany:
                continue
            for term in terms:
                self.is_same(reach(body, way_to(body, term)), term, body)

    def test_ends_that_differ_only_in_what_is_shut(self):
        body = (("either", (A, U), (("either", (A, ("shut", ("v",))), (A, ("shut", ("x",)))),)), ("shut", ("w",)), C)
        terms = body_form(body).terms
        self.is_same(len(terms), 7)
        for term in terms:
            self.is_same(reach(body, way_to(body, term)), term)

    def test_big_forms(self):
        bodies = [curve(30), (("loop", 9, curve(30)),), (("room", curve(30)), C, *curve(12)), (*curve(5), ("loop", 3, (*curve(3), C))),
                  (("loop", 2, (("loop", MOST, (A, U, C, B)), ("either", (D,), (STOP,)))), C, ("room", (D, A)))]
        for body in bodies:
            form = body_form(body)
            self.assertGreater(len(form), 8)
            for term in form.terms:
                self.is_same(reach(body, way_to(body, term)), term)

    def test_again_and_by_name(self):
        body = (("loop", 5, (A, U)),)
        term = ((("a", 5),), ("u",), "end", ())
        self.gives(way_to(body, term), way_to, body=body, term=term)
        self.gives(term, reach, body=body, way=way_to(body, term))

    def test_unknown_terms(self):
        body = (("loop", 5, (A, U)), C)
        for term in (
            *ODD_VALUES, ((), (), "now", ()), ((("a", 4),), ("u",), "now", ()), ((("a", 5),), ("u",), "end", ()), ((("z", 1),), (), "now", ()),
            ((("a", 5),), ("u", "v"), "now", ()), ((("a", 5), ("z", 1)), ("u",), "now", ()), ((), (), "d", ()), ((), (), "end", ("d",)), [(), (), "end", ("c",)], ((), (), ("g", ()), ()),
        ):
            with self.assertRaises(UnknownTerm) as caught:
                way_to(body, term)
            self.assertIs(caught.exception.value, term)
        self.fails(UnknownTerm, {"value": ((), (), "now", ())}, way_to, (("loop", None, (A,)),), ((), (), "now", ()))

    def test_errors_in_turn(self):
        self.fails(InvalidBody, {"place": (0,)}, way_to, (5,), None)
        self.fails(TooMany, {"name": None}, way_to, curve(31), None)
        self.fails(TooMany, {"name": None}, way_to, tuple(("do", name) for name in "abcdefghi"), ((), (), "now", ()))


if __name__ == "__main__":
    unittest.main()
