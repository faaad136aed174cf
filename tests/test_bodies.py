import random
import unittest

from nestdeep.bodies import body_form, either, function_form, in_turn, room
from nestdeep.errors import InvalidBody, InvalidCount, TooMany
from nestdeep.forms import Form
from nestdeep.formtexts import form_text, read_form
from nestdeep.loops import loop
from nestdeep.terms import least_sets, least_terms
from tests.helpers import BIG, ODD_VALUES, Case
from tests.reached import choices_in_turn, reached, some_body

A, B, U, C, D, STOP = ("take", 1, "a"), ("take", 1, "b"), ("shut", ("u",)), ("do", "c"), ("do", "d"), ("stop",)
MOST = 10 ** 12


def text(*body):
    return form_text(body_form(body))


def takes(frames, *counts):
    return tuple(("take", count, frame) for count, frame in zip(counts, frames) if count)


def curve(many, frames="ab"):
    """A body with so many "now" terms and so many "end" terms: points of a curve, none of which the others cover."""
    points = points_of_curve(many)
    runs = [points[at:at + 11] for at in range(0, many, 11)]
    bodies = []
    for run in runs:
        steps = [(one[0] - other[0], other[1] - one[1]) for one, other in zip(run, run[1:])]
        choices = [("either", takes(frames, down, 0), takes(frames, 0, up)) for down, up in steps]
        bodies.append((*takes(frames, run[-1][0], run[0][1]), *choices))
    body = bodies[0]
    for other in bodies[1:]:
        body = (("either", body, other),)
    return body


def points_of_curve(many):
    return [((many - at) * (many + at), 2 * many * at) for at in range(many)]


def more_now(frame):
    """A statement that adds one "now" term to all forms of bodies behind it that do not take the frame."""
    return ("either", (), (("take", 1, frame), STOP))


class Small(Case):
    def test_examples(self):
        self.is_same(text(("loop", 5, (A, U))), "form\nnow 1 a\nnow 5 a shut u\nend 0\nend 5 a shut u\n")
        self.is_same(text(C, ("take", 9, "b")), "form c\nnow 0\nnow 9 b returns c\nend 9 b returns c\nc 0\n")

    def test_kinds(self):
        form = body_form((C, A))
        self.is_same([type(form) is Form, form.callbacks, form.endless], [True, ("c",), ()])
        self.is_same(form.terms, (
            ((), (), "now", ()), ((("a", 1),), (), "now", ("c",)), ((("a", 1),), (), "end", ("c",)), ((), (), "c", ()),
        ))

    def test_returns(self):
        for body, returns in (
            ((), ((),)), ((STOP,), ()), ((C,), (("c",),)), ((A, C, D), (("c", "d"),)), ((("either", (C,), (D, A)),), (("c",), ("d",))),
            ((("either", (C,), (C, D, B)),), (("c",),)), ((("either", (), (C, B)),), ((),)), ((("loop", None, (A,)),), ()), ((D, ("either", (C, STOP), ())), (("d",),)),
        ):
            self.gives(returns, lambda: body_form(body).returns)

    def test_empty_bodies_and_blocks(self):
        empty = "form\nnow 0\nend 0\n"
        for body in ((), (("room", ()),), (("either", (), ()),), (("loop", 5, ()),), (("loop", None, ()),), (("loop", 1, ()),)):
            self.is_same(text(*body), empty)
        self.is_same(text(("either", (), (A,))), "form\nnow 1 a\nend 1 a\n")
        self.is_same(text(("either", (), (C, A))), "form c\nnow 0\nnow 1 a returns c\nend 0\nend 1 a returns c\nc 0\n")

    def test_each_statement(self):
        self.is_same(text(A), "form\nnow 1 a\nend 1 a\n")
        self.is_same(text(U), "form\nnow 0\nend 0 shut u\n")
        self.is_same(text(("room", (A, U))), "form\nnow 1 a\nend 0\n")
        self.is_same(text(C), "form c\nnow 0\nend 0 returns c\nc 0\n")
        self.is_same(text(("call", "g", ("x", "y"))), "form g(x,y)\nnow 0\nend 0 returns g(x,y)\ng(x,y) 0\n")
        self.is_same(text(("call", "g", ())), "form g()\nnow 0\nend 0 returns g()\ng() 0\n")
        self.is_same(text(("either", (A,), (B, U))), "form\nnow 1 a\nnow 1 b\nend 1 a\nend 1 b shut u\n")
        self.is_same(text(("loop", 3, (A,))), "form\nnow 3 a\nend 3 a\n")
        self.is_same(text(("loop", None, (A,))), "form\nendless\n")
        self.is_same(text(STOP), "form\nnow 0\n")

    def test_a_stop_ahead_of_other_statements(self):
        self.is_same(text(STOP, A, U, C, ("loop", None, (A,))), "form c\nnow 0\n")
        self.is_same(text(A, STOP, B), "form\nnow 1 a\n")
        self.is_same(text(("either", (A, STOP, B), (U, B))), "form\nnow 1 a\nnow 1 b shut u\nend 1 b shut u\n")
        self.is_same(text(("room", (A, STOP)), B), "form\nnow 1 a\n")
        self.is_same(text(("loop", 3, (A, STOP)), B), "form\nnow 1 a\nnow 1 b\nend 1 b\n")

    def test_what_lasts_to_the_end_of_the_room(self):
        self.is_same(text(("room", (A, U, C)), D), "form c d\nnow 1 a\nend 0 returns c d\nc 1 a shut u\nd 0 returns c\n")
        self.is_same(text(("either", (A, U), (A, U)), D), "form d\nnow 1 a\nend 1 a shut u returns d\nd 1 a shut u\n")

    def test_callbacks_are_all_that_are_called(self):
        body = (STOP, D, ("call", "g", ("d",)), ("call", "b", ()), ("room", (C, ("loop", 2, (("call", "b", ("c", "c")),)))), C)
        self.is_same(body_form(body).callbacks, ("c", "d", ("b", ()), ("b", ("c", "c")), ("g", ("d",))))

    def test_the_same_callback_twice(self):
        self.is_same(text(C, A, C, B), (
            "form c\nnow 0\nnow 1 a + 1 b returns c\nend 1 a + 1 b returns c\nc 0\nc 1 a returns c\n"))
        self.is_same(text(A, C, C), "form c\nnow 1 a\nend 1 a returns c\nc 1 a\n")

    def test_sixty_digits(self):
        count = 10 ** 59
        form = body_form((("loop", MOST, (("take", count, "a"), ("loop", MOST, (("take", 1, "b"),)))),))
        line = (("a", count * MOST), ("b", MOST * MOST))
        self.is_same(form.terms, ((line, (), "now", ()), (line, (), "end", ())))

    def test_mixes_count(self):
        body = (("either", (("take", 2, "a"),), (("either", (("take", 2, "b"),), (A, B)),)),)
        self.is_same(text(*body), "form\nnow 2 a\nnow 2 b\nend 2 a\nend 2 b\n")


class Loops(Case):
    def test_rounds(self):
        for rounds in (1, 2, 10, MOST):
            wanted = f"form\nnow {rounds} a\nend {rounds} a\n"
            self.is_same(text(("loop", rounds, (A,))), wanted)

    def test_what_one_round_shuts_is_shut_in_the_next(self):
        body = (A, U, B)
        self.is_same(text(("loop", 1, body)), "form\nnow 1 a\nnow 1 a + 1 b shut u\nend 0\nend 1 a + 1 b shut u\n")
        self.is_same(text(("loop", 7, body)), "form\nnow 1 a\nnow 7 a + 7 b shut u\nend 0\nend 7 a + 7 b shut u\n")
        self.is_same(text(("loop", 7, (("room", (U, A)), B))), (
            "form\nnow 1 a + 6 b shut u\nnow 7 b\nend 7 b\n"))

    def test_calls_in_rounds(self):
        self.is_same(text(("loop", 3, (C, A))), (
            "form c\nnow 0\nnow 3 a returns c\nend 0\nend 3 a returns c\nc 0\nc 2 a returns c\n"))
        self.is_same(text(("loop", 1, (C, A))), "form c\nnow 0\nnow 1 a returns c\nend 0\nend 1 a returns c\nc 0\n")

    def test_loops_within_each_other(self):
        self.is_same(text(("loop", MOST, (("loop", MOST, (A,)), B))), (
            f"form\nnow {MOST * MOST} a + {MOST} b\nend {MOST * MOST} a + {MOST} b\n"))
        self.is_same(text(("loop", None, (("loop", 2, (C,)),))), "form c\nnow 0\nend 0\nc 0\n")
        self.is_same(text(("loop", 2, (("loop", None, (C, A)), B))), (
            "form c\nendless c\nnow 2 b\nend 2 b\nc 1 b\n"))

    def test_without_a_bound(self):
        self.is_same(text(("loop", None, (U, C))), "form c\nnow 0\nend 0\nc 0 shut u\n")
        self.is_same(text(("loop", None, (("room", (A, U, C)),))), "form c\nnow 1 a\nend 0\nc 1 a shut u\n")
        self.is_same(text(("loop", None, (A, STOP))), "form\nnow 1 a\nend 0\n")

    def test_endless_whatever_returns(self):
        for body in ((("loop", None, (A,)),), (C, ("room", (("loop", None, (U, B)),))), (("loop", 1, (("loop", None, (A,)),)),)):
            form = body_form(body)
            self.is_same(form.endless, (("c",),) if body[0] == C else ((),))
            if body[0] != C:
                self.is_same((form.terms, form.returns, len(form)), ((), (), 0))

    def test_endless_if_some_return(self):
        self.is_same(text(("loop", None, (("either", (C, A), (D, A)),))), (
            "form c d\nendless c\nendless d\nnow 0\nend 0\nc 0\nd 0\n"))
        self.is_same(text(("loop", None, (C, D, A))), (
            "form c d\nendless c d\nnow 0\nend 0\nc 0\nd 0 returns c\n"))
        self.is_same(text(C, ("room", (("loop", None, (D, A)),)), B), (
            "form c d\nendless c d\nnow 0\nnow 1 b returns c\nend 1 b returns c\nc 0\nd 0 returns c\n"))
        self.is_same(text(("either", (C, D, ("loop", None, (A,))), (D, ("loop", None, (A,))))), (
            "form c d\nendless d\nnow 0\nc 0\nd 0\n"))

    def test_what_follows_what_is_endless(self):
        self.is_same(text(("loop", None, (A,)), C, B), "form c\nendless\n")
        self.is_same(text(("loop", None, (C, A)), C, B), "form c\nendless c\nnow 0\nc 0\n")
        self.is_same(text(("loop", None, (C, A)), D, C, B), "form c d\nendless c\nnow 0\nc 0\nd 0\n")


class Functions(Case):
    def test_is_the_form_of_a_room(self):
        chance = random.Random(3)
        for _ in range(200):
            body = some_body(chance)
            self.assertEqual(function_form(("f", (), body)), body_form((("room", body),)))

    def test_ends(self):
        self.is_same(form_text(function_form(("f", ("c",), (A, U, C)))), "form c\nnow 1 a\nend 0 returns c\nc 1 a shut u\n")
        self.is_same(form_text(function_form(("f", ("c",), ()))), "form\nnow 0\nend 0\n")

    def test_blocks_four_deep(self):
        body = (A,)
        for _ in range(4):
            body = (("room", body),)
        self.is_same(form_text(function_form(("f", (), body))), "form\nnow 1 a\nend 0\n")
        self.fails(InvalidBody, {"place": (0,) * 9}, function_form, ("f", (), (("room", body),)))
        self.fails(InvalidBody, {"place": (0,) * 9}, body_form, (("room", body),))

    def test_wrong_bodies(self):
        for body in ODD_VALUES:
            if body != ():
                place = (0,) if isinstance(body, tuple) else ()
                self.fails(InvalidBody, {"place": place}, function_form, ("f", (), body))
                self.fails(InvalidBody, {"place": place}, body_form, body)
        for make in (body_form, lambda body: function_form(("f", (), body))):
            self.fails(InvalidBody, {"place": (1, 0, 1)}, make, (A, ("room", (A, ("take", True, "a")))))
            self.fails(InvalidBody, {"place": ()}, make, (A,) * 13)


class Numbers(Case):
    """Eight callbacks and nine, 60 terms and 61."""

    def callbacks(self, many):
        return tuple(("do", name) for name in "abcdefghi"[:many])

    def test_callbacks(self):
        self.is_same(body_form(self.callbacks(8)).callbacks, tuple("abcdefgh"))
        self.fails(TooMany, {"name": None}, body_form, self.callbacks(9))
        self.fails(TooMany, {"name": "f"}, function_form, ("f", (), self.callbacks(9)))
        body = (STOP, *self.callbacks(8), ("room", (("call", "g", ()),)))
        self.fails(TooMany, {"name": None}, body_form, body)
        self.is_same(len(body_form((*self.callbacks(8), *self.callbacks(4))).callbacks), 8)

    def test_terms_of_the_whole(self):
        self.is_same(len(body_form(curve(30))), 60)
        self.fails(TooMany, {"name": None}, body_form, curve(31))
        self.fails(TooMany, {"name": "f"}, function_form, ("f", (), curve(31)))
        self.is_same(len(function_form(("f", (), curve(30)))), 31)

    def test_sixty_and_sixty_one(self):
        self.is_same(len(body_form((more_now("x"), more_now("y"), *curve(29)))), 60)
        self.fails(TooMany, {"name": None}, body_form, (more_now("x"), more_now("y"), more_now("z"), *curve(29)))
        self.fails(TooMany, {"name": None}, body_form, (more_now("x"), *curve(30)))
        self.fails(TooMany, {"name": "f"}, function_form, ("f", (), (more_now("x"), *curve(30))))
        self.is_same(len(body_form((more_now("x"), STOP, *curve(30)))), 1)

    def test_a_beginning(self):
        for last in (STOP, ("loop", None, (A,)), ("take", 1, "a")):
            self.fails(TooMany, {"name": None}, body_form, (*curve(31), last))
        self.is_same(len(body_form((*curve(30), STOP))), 30)
        self.is_same(len(body_form((*curve(30), ("loop", None, (A,))))), 0)
        self.is_same(len(body_form((*curve(30), ("take", 1, "a")))), 60)

    def test_a_body_in_it(self):
        self.fails(TooMany, {"name": None}, body_form, (("room", curve(31)),))
        self.is_same(len(body_form((("room", curve(30)),))), 31)
        self.fails(TooMany, {"name": None}, body_form, (STOP, ("room", curve(31))))
        self.is_same(text(STOP, ("room", curve(30))), "form\nnow 0\n")
        self.fails(TooMany, {"name": None}, body_form, (STOP, ("either", (), (*curve(31), STOP))))

    def test_a_statement_alone_is_no_beginning(self):
        big = ("either", (("take", 5, "x"), *curve(28)), (("take", 5, "y"), *curve(28)))
        self.fails(TooMany, {"name": None}, body_form, (big,))
        self.is_same(text(STOP, big), "form\nnow 0\n")

    def test_of_forms(self):
        thirty = body_form(curve(30))
        other = body_form((("room", (("take", 1, "z"), STOP)),))
        self.fails(TooMany, {"name": None}, either, thirty, other)
        self.is_same(len(either(thirty, body_form(()))), 60)
        self.is_same(len(in_turn(body_form(()), thirty)), 60)
        self.fails(TooMany, {"name": None}, in_turn, thirty, body_form((("either", (A,), (("take", 1, "x"),)),)))
        self.fails(TooMany, {"name": None}, loop, in_turn(body_form((("do", "c"),)), body_form(curve(28))), 2)
        self.is_same(len(loop(thirty, 5)), 60)
        eight, ninth = body_form(self.callbacks(8)), body_form((("do", "i"),))
        for make in (either, in_turn):
            self.fails(TooMany, {"name": None}, make, eight, ninth)
            self.fails(TooMany, {"name": None}, make, ninth, eight)
            self.is_same(make(eight, body_form((("do", "h"),))).callbacks, tuple("abcdefgh"))

    def test_rooms_of_big_forms(self):
        terms = []
        for at in range(61):
            terms.append((((f"a{'abcdefgh'[at // 8]}{'abcdefgh'[at % 8]}", 1),), (), "now", ()))
        big = Form((), (), tuple(sorted(terms)))
        self.is_same(len(big), 61)
        self.fails(TooMany, {"name": None}, room, big)
        self.fails(TooMany, {"name": None}, loop, big, 3)
        self.fails(TooMany, {"name": None}, either, big, big)
        self.fails(TooMany, {"name": None}, in_turn, big, body_form(()))


class Parts(Case):
    """The forms made of forms are those of the bodies made of bodies."""

    def test_made_of_parts(self):
        chance = random.Random(11)
        for _ in range(400):
            one, other = some_body(chance, 1), some_body(chance, 1)
            rounds = chance.choice((1, 2, 5, MOST, None))
            first, second = body_form(one), body_form(other)
            for made, body in (
                (in_turn(first, second), (("room", ()), *one, *other)[:12]), (either(first, second), (("either", one, other),)),
                (room(first), (("room", one),)), (loop(first, rounds), (("loop", rounds, one),)),
            ):
                self.assertEqual(made, body_form(body), body)
                self.assertEqual(Form(made.callbacks, made.endless, made.terms), made)

    def test_by_the_names_of_the_interface(self):
        first, second = body_form(body=(A,)), body_form((B,))
        self.assertEqual(in_turn(first=first, second=second), body_form((A, B)))
        self.assertEqual(either(first=first, second=second), body_form((("either", (A,), (B,)),)))
        self.assertEqual(room(form=first), function_form(function=("f", (), (A,))))
        self.assertEqual(loop(form=first, rounds=2), body_form((("loop", 2, (A,)),)))

    def test_ends_with_lines_and_shut(self):
        first = read_form("form c\nnow 0\nend 0 shut u\nc 0\n")
        second = read_form("form d\nnow 0\nnow 2 b shut v\nend 3 a returns d\nd 0\n")
        self.is_same(form_text(in_turn(first, second)), (
            "form c d\nnow 0\nnow 2 b shut u v\nend 3 a shut u returns d\nc 0\nd 0 shut u\n"))

    def test_forms_that_no_body_has(self):
        form = read_form("form\nnow 5 a\nend 2 b shut u\n")
        self.is_same(form_text(loop(form, 3)), "form\nnow 5 a\nnow 5 a + 4 b shut u\nend 0\nend 6 b shut u\n")
        self.is_same(form_text(loop(form, None)), "form\nendless\n")
        self.is_same(form_text(room(form)), "form\nnow 5 a\nend 0\n")
        self.is_same(form_text(in_turn(form, form)), "form\nnow 5 a\nnow 5 a + 2 b shut u\nend 4 b shut u\n")

    def test_wrong_rounds(self):
        form = body_form((A,))
        for value in [*ODD_VALUES, -1, 0, MOST + 1, BIG]:
            if value is None or (type(value) is int and 1 <= value <= MOST):
                continue
            self.fails(InvalidCount, {"value": value}, loop, form, value)
        self.is_same(form_text(loop(form, 1)), "form\nnow 1 a\nend 1 a\n")
        self.is_same(form_text(loop(form, MOST)), f"form\nnow {MOST} a\nend {MOST} a\n")

    def test_count_ahead_of_number_of_terms(self):
        self.fails(InvalidCount, {"value": True}, loop, body_form(curve(30)), True)


class Performed(Case):
    """Forms are compared with what is reached on all ways, performed statement by statement."""

    def test_loops_of_few_rounds(self):
        chance = random.Random(5)
        for _ in range(500):
            body = some_body(chance, loops=(1, 2, 3))
            form, found = body_form(body), reached(body)
            self.is_same(form.endless, (), body)
            if len(found) < 300:
                self.is_same(form.terms, least_terms(found), body)

    def test_many_ends(self):
        chance = random.Random(8)
        tried = 0
        while tried < 150:
            body = choices_in_turn(chance, chance.choice(("a", "ab", "abx")), chance.choice((2, 2, 3)))
            found = reached(body)
            if len(found) <= 80:
                tried += 1
                self.is_same(body_form(body).terms, least_terms(found), body)

    def test_loops_without_a_bound(self):
        chance = random.Random(6)
        for _ in range(500):
            body = some_body(chance, most=3, loops=(2, None), callbacks=("c", ("g", ())))
            form = body_form(body)
            few, many = reached(body, 20), reached(body, 40)
            if len(many) > 1000:
                continue
            grown = []
            for callbacks in ((), ("c",), (("g", ()),), ("c", ("g", ()))):
                most = [max(sum(count for _, count in term[0]) for term in terms if set(term[3]) <= set(callbacks))
                        for terms in (few, many)]
                if most[1] > most[0]:
                    grown.append(callbacks)
            self.is_same(form.endless, least_sets(grown), body)
            for term in many:
                self.assertTrue(form.shows(term), (body, term))
            kept = [term for term in many if not any(set(one) <= set(term[3]) for one in grown)]
            self.is_same(form.terms, least_terms(kept) if len(kept) <= 80 else form.terms, body)

    def test_names_have_no_other_effect(self):
        chance = random.Random(7)
        names = {"a": "zz", "b": "y", "u": "w", "v": "i", "c": "k", "d": "abc", "g": "p"}

        def renamed(value):
            if isinstance(value, tuple):
                return tuple(renamed(item) for item in value)
            return names.get(value, value) if isinstance(value, str) else value

        for _ in range(200):
            body = some_body(chance)
            form = body_form(body)
            other = body_form(sorted_shuts(renamed(body)))
            self.assertEqual(len(form), len(other))
            again = []
            for line, shut, tag, returned in form.terms:
                again.append((tuple(sorted(renamed(line))), tuple(sorted(renamed(shut))), tag if tag in ("now", "end") else renamed(tag),
                              tuple(sorted(renamed(returned), key=lambda one: (isinstance(one, tuple), one)))))
            self.assertEqual(sorted(map(repr, again)), sorted(map(repr, other.terms)))


def sorted_shuts(body):
    """The body with the interrupts of each shut sorted, as they must be."""
    rows = []
    for statement in body:
        if statement[0] == "shut":
            statement = ("shut", tuple(sorted(statement[1])))
        rows.append(tuple(sorted_shuts(part) if isinstance(part, tuple) and statement[0] in ("room", "either", "loop") else part
                          for part in statement))
    return tuple(rows)


if __name__ == "__main__":
    unittest.main()
