import random
import unittest

from nestdeep.bodies import body_form, function_form
from nestdeep.errors import TooMany, UnknownFunction, UnknownInstance
from nestdeep.forming import form_of, forms
from nestdeep.forms import Form
from nestdeep.formtexts import form_text
from nestdeep.house import House
from nestdeep.instances import instance_form, needed
from nestdeep.lines import line_sum
from nestdeep.programs import Program
from nestdeep.terms import least_sets, least_terms
from tests.helpers import ODD_VALUES, Case
from tests.programs import inlined, moments_of, some_functions
from tests.reached import reached
from tests.test_bodies import curve

A, B, U, STOP = ("take", 1, "a"), ("take", 1, "b"), ("shut", ("u",)), ("stop",)
DO_C, DO_D = ("do", "c"), ("do", "d")


def call(name, *args):
    return ("call", name, args)


def text(name, *functions):
    return form_text(form_of(Program(functions), name))


# A body that has more than 60 terms, only with its last statement.
BIG = (*curve(12), call("a"), ("take", 1, "x"), call("b"), ("take", 1, "y"))
LETTERS = "abcdefghijklmnopqrstuvwxyz"


class Examples(Case):
    G = ("g", (), (call("g"), ("take", 99, "b")))
    F = ("f", ("c",), (A, ("either", (DO_C,), ()), ("take", 9, "b")))
    H = ("h", (), (call("f", "g"), U))

    def test_of_the_interface(self):
        program = Program([self.F, self.G, self.H])
        self.gives("form c\nnow 1 a + 9 b\nend 0\nc 1 a\n", lambda: form_text(form_of(program, "f")))
        self.gives("form\nnow 0\n", lambda: form_text(form_of(program, "g")))
        self.gives("form\nnow 1 a + 9 b\nend 0\n", lambda: form_text(form_of(program, "h")))

    def test_forms(self):
        program = Program([self.H, self.F, self.G])
        found = forms(program)
        self.is_same(list(found), ["f", "g", "h"])
        for name, form in found.items():
            self.assertIs(type(form), Form)
            self.assertEqual(form, form_of(program, name))
            self.assertEqual(Form(form.callbacks, form.endless, form.terms), form)
        found.clear()
        self.assertEqual(len(forms(program=program)), 3)
        self.assertEqual(form_of(program=program, function="f").callbacks, ("c",))

    def test_needed(self):
        program = Program([self.H, self.F, self.G])
        self.gives([("f", ("c",))], needed, program, "f")
        self.gives([("g", ())], needed, program, "g")
        self.gives([("f", ("g",)), ("g", ()), ("h", ())], needed, program, "h")
        needed(program, "h").clear()
        self.is_same(needed(program=program, function="h"), [("f", ("g",)), ("g", ()), ("h", ())])


class Needed(Case):
    def test_what_is_passed_and_never_called(self):
        rows = [("main", (), (call("f", "t", "s"),)), ("f", ("c", "d"), (DO_D,)), ("s", (), ()), ("t", (), (call("s"),))]
        program = Program(rows)
        self.is_same(needed(program, "main"), [("f", ("t", "s")), ("main", ()), ("s", ())])
        self.is_same(needed(program, "f"), [("f", ("c", "d"))])

    def test_what_is_never_come_to_is_needed(self):
        program = Program([("f", ("c",), (STOP, call("g", "c"), ("room", (call("g", "t"),)))), ("g", ("d",), (DO_D,)), ("t", (), ())])
        self.is_same(needed(program, "f"), [("f", ("c",)), ("g", ("c",)), ("g", ("t",)), ("t", ())])

    def test_parameters_exchanged_and_doubled(self):
        program = Program([("f", ("c", "d"), (call("f", "d", "c"), call("g", "d", "d"))), ("g", ("x", "y"), (("do", "x"), call("f", "y", "t"))), ("t", (), ())])
        self.is_same(needed(program, "f"), [
            ("f", ("c", "d")), ("f", ("c", "t")), ("f", ("d", "c")), ("f", ("d", "t")), ("f", ("t", "c")), ("f", ("t", "d")), ("f", ("t", "t")),
            ("g", ("c", "c")), ("g", ("d", "d")), ("g", ("t", "t")), ("t", ())])

    def test_unknown_functions(self):
        program = Program([("f", (), ())])
        for name in (*ODD_VALUES, "F", "", "g"):
            for action in (needed, form_of):
                with self.assertRaises(UnknownFunction) as caught:
                    action(program, name)
                self.assertIs(caught.exception.name, name)
            with self.assertRaises(UnknownFunction):
                instance_form(program, name, ("f", ()))

    def test_unknown_instances(self):
        program = Program([("f", ("c",), (call("g", "c"),)), ("g", ("d",), (DO_D,)), ("t", (), ())])
        for value in (*ODD_VALUES, ("g", ("d",)), ("f", ("t",)), ("t", ()), ("g", ["c"]), ["g", ("c",)], ("g", "c"), ("g", ()), ("c", ())):
            with self.assertRaises(UnknownInstance) as caught:
                instance_form(program, "f", value)
            self.assertIs(caught.exception.value, value)
        self.is_same(form_text(instance_form(program=program, function="f", instance=("g", ("c",)))), "form c\nnow 0\nend 0 returns c\nc 0\n")


class InstanceForms(Case):
    def test_arguments_in_place_of_parameters(self):
        body = (("do", "x"), A, call("h", "y", "x"), B, ("do", "y"), call("s"))
        program = Program([("f", ("c",), (call("g", "c", "t"), call("g", "t", "c"))), ("g", ("x", "y"), body), ("h", ("p", "q"), ()), ("s", (), ()), ("t", (), ())])
        self.is_same(form_text(instance_form(program, "f", ("g", ("c", "t")))), (
            "form c h(t,c) s() t()\nnow 0\nnow 1 a returns c\nnow 1 a + 1 b returns c h(t,c)\nend 0 returns c h(t,c) s() t()\n"
            "c 0\nh(t,c) 1 a returns c\ns() 1 a + 1 b returns c h(t,c) t()\nt() 1 a + 1 b returns c h(t,c)\n"))
        self.is_same(instance_form(program, "f", ("g", ("t", "c"))).callbacks, ("c", ("h", ("c", "t")), ("s", ()), ("t", ())))
        self.assertEqual(instance_form(program, "f", ("h", ("t", "c"))), body_form(()))

    def test_equal_callbacks_become_one(self):
        body = (("either", (("do", "x"), ("take", 2, "a")), (("do", "y"), ("take", 1, "a"))), call("t"))
        program = Program([("f", ("c",), (call("g", "c", "c"), call("g", "t", "t"))), ("g", ("x", "y"), body), ("t", (), ())])
        self.is_same(form_text(instance_form(program, "f", ("g", ("c", "c")))), (
            "form c t()\nnow 0\nnow 2 a returns c\nend 0 returns c t()\nc 0\nt() 2 a returns c\n"))
        self.is_same(form_text(instance_form(program, "f", ("g", ("t", "t")))), (
            "form t()\nnow 0\nnow 2 a returns t()\nend 0 returns t()\nt() 0\nt() 2 a returns t()\n"))
        self.is_same(len(instance_form(program, "g", ("g", ("x", "y"))).terms), len(function_form(("g", ("x", "y"), body))))

    def test_endless_sets_of_instances(self):
        body = (("loop", None, (("either", (("do", "x"), ("do", "y"), A), (("do", "y"), B)),)),)
        program = Program([("f", ("c",), (call("g", "c", "t"), call("g", "c", "c"))), ("g", ("x", "y"), body), ("t", (), ())])
        self.is_same(instance_form(program, "f", ("g", ("c", "t"))).endless, ((("t", ()),),))
        self.is_same(instance_form(program, "f", ("g", ("c", "c"))).endless, (("c",),))

    def test_own_instances(self):
        chance = random.Random(8)
        for _ in range(100):
            rows = some_functions(chance)
            program = Program(rows)
            for function in rows:
                if not program.uses(function[0]):
                    self.assertEqual(instance_form(program, function[0], function[:2]), function_form(function))


class Performed(Case):
    def test_calls_are_rooms(self):
        self.is_same(text("f", ("f", (), (A, call("g"), B)), ("g", (), (("take", 5, "a"), U))), "form\nnow 1 a + 1 b\nnow 6 a\nend 0\n")
        self.is_same(text("f", ("f", ("c",), (A, call("g", "c"), DO_C)), ("g", ("d",), (U, B, DO_D))), (
            "form c\nnow 1 a\nnow 1 a + 1 b shut u\nend 0 returns c\nc 1 a returns c\nc 1 a + 1 b shut u\n"))

    def test_calls_that_never_come_back(self):
        self.is_same(text("f", ("f", (), (call("g"), A)), ("g", (), (B, STOP))), "form\nnow 1 b\n")
        self.is_same(text("f", ("f", (), (call("f"), A)),), "form\nnow 0\n")
        self.is_same(text("f", ("f", (), (A, ("either", (call("f"),), ()))),), "form\nendless\n")
        self.is_same(text("f", ("f", (), (("either", (call("f"),), ()), A)),), "form\nnow 1 a\nend 0\n")
        self.is_same(text("f", ("f", (), (("either", (("room", (call("f"),)),), ()),)),), "form\nnow 0\nend 0\n")

    def test_rings_of_calls(self):
        ring = [("f", (), (call("g"),)), ("g", (), (call("h"), A)), ("h", (), (U, call("f")))]
        self.is_same(text("f", *ring), "form\nnow 0\n")
        ring[1] = ("g", (), (A, call("h")))
        for name in "fgh":
            self.is_same(text(name, *ring), "form\nendless\n")

    def test_a_long_ring_that_comes_back(self):
        names = "fghkm"
        rows = [(name, ("c",), (call(names[at + 1], "c"), A)) for at, name in enumerate(names[:-1])]
        rows.append(("m", ("c",), (("either", (call("f", "c"),), (DO_C,)), ("take", 2, "b"))))
        for name in names:
            self.is_same(text(name, *rows), "form c\nnow 0\nnow 1 a returns c\nnow 2 b returns c\nend 0 returns c\nc 0\n")

    def test_rings_under_what_comes_back(self):
        self.is_same(text("f", ("f", ("c",), (DO_C, A, call("f", "c")))), "form c\nendless c\nnow 0\nc 0\n")
        self.is_same(text("f", ("f", ("c", "d"), (DO_C, A, call("f", "d", "c")))), "form c d\nendless c d\nnow 0\nnow 1 a returns c\nc 0\nd 1 a returns c\n")
        self.is_same(text("f", ("f", ("d", "c"), (("either", (DO_C, A), (DO_D, B)), call("f", "d", "c")))), "form c d\nendless c\nendless d\nnow 0\nc 0\nd 0\n")
        self.is_same(text("f", ("f", ("c", "d"), (("either", (DO_C, A, call("f", "c", "c")), (DO_D, B, call("f", "d", "d"))),))), (
            "form c d\nendless c\nendless d\nnow 0\nc 0\nd 0\n"))
        self.is_same(text("f", ("f", ("c", "d"), (DO_D, call("g", "c"))), ("g", ("x",), (A, ("do", "x"), ("loop", None, (A,))))), (
            "form c d\nendless c d\nnow 0\nnow 1 a returns d\nc 1 a returns d\nd 0\n"))

    def test_parameters_that_are_passed_on(self):
        rows = [("f", ("c", "d"), (call("g", "d", "c"),)), ("g", ("x", "y"), (("do", "x"), A, ("do", "y"))), ("t", (), (B,)), ("s", (), (STOP,)),
                ("p", (), (call("f", "t", "s"),)), ("q", (), (call("f", "s", "t"),)), ("r", ("d",), (call("g", "d", "d"),))]
        self.is_same(text("f", *rows), "form c d\nnow 0\nnow 1 a returns d\nend 0 returns c d\nc 1 a returns d\nd 0\n")
        self.is_same(text("p", *rows), "form\nnow 0\n")
        self.is_same(text("q", *rows), "form\nnow 1 a\nnow 1 b\n")
        self.is_same(text("r", *rows), "form d\nnow 0\nnow 1 a returns d\nend 0 returns d\nd 0\nd 1 a returns d\n")

    def test_callbacks_are_the_parameters_sorted(self):
        self.is_same(text("f", ("f", ("y", "x"), ())), "form x y\nnow 0\nend 0\n")
        self.is_same(text("f", ("f", ("y",), (STOP, ("do", "y")))), "form y\nnow 0\n")
        self.is_same(text("f", ("f", ("y", "x"), (("loop", None, (A,)),))), "form x y\nendless\n")

    def test_as_if_calls_were_performed_in_place(self):
        chance = random.Random(1)
        for _ in range(250):
            rows = some_functions(chance, recursive=False, loops=(1, 2))
            program = Program(rows)
            for name in program.names():
                body = inlined(rows, name, 9)
                found = reached(body)
                if len(repr(body)) < 1500 and len(found) <= 80:
                    form = form_of(program, name)
                    self.is_same((form.endless, form.terms), ((), least_terms(found)), (rows, name))

    def test_what_is_reached_so_deep_is_shown(self):
        chance = random.Random(2)
        for _ in range(300):
            rows = some_functions(chance)
            program = Program(rows)
            for name in program.names():
                body = inlined(rows, name, 3)
                if len(repr(body)) < 1500:
                    form = form_of(program, name)
                    for term in reached(body, 2)[:400]:
                        self.assertTrue(form.shows(term), (rows, name, term))

    def test_moment_by_moment(self):
        """What a machine reaches when each parameter is a function that returns, or stops."""
        chance = random.Random(3)
        tried = 0
        while tried < 120:
            rows = some_functions(chance, 3, loops=(1, 2), words=["take", "shut", "call", "do", "do", "either", "loop", "room"])
            name = chance.choice([row[0] for row in rows])
            params = dict((row[0], row[1]) for row in rows)[name]
            back = [param for param in params if chance.random() < .5]
            stubs = [(f"s{param}", (), (("take", 1, f"z{param}"),) if param in back else (("take", 1, f"z{param}"), STOP)) for param in params]
            task = ("main", (), (call(name, *[stub[0] for stub in stubs]), ("take", 1, "zz")))
            house = House(Program([*rows, *stubs, task]), "main")
            found, whole = moments_of(house, 400)
            form = form_of(Program(rows), name)
            if any(set(one) <= set(back) for one in form.endless):
                continue
            tried += 1
            told = [((("zz", 1),), (), "now", ())] if any(set(one) <= set(back) for one in form.returns) else []
            for line, shut, tag, returned in form.terms:
                if set(returned) <= set(back) and tag != "end":
                    more = () if tag == "now" else ((f"z{tag}", 1),)
                    told.append((line_sum([line, more]), shut, "now", ()))
            terms = [(line, shut, "now", ()) for line, shut in found]
            if whole and len(terms) <= 80:
                self.is_same(least_terms(terms), least_terms(told), (rows, name, back))
            else:
                self.assertEqual([term for term in terms if len(least_terms([*told, term])) > len(least_terms(told))], [], (rows, name))


class Names(Case):
    def renamed(self, value, names):
        if isinstance(value, tuple):
            return tuple(self.renamed(item, names) for item in value)
        return names.get(value, value) if isinstance(value, str) else value

    def test_order_of_functions(self):
        chance = random.Random(4)
        for _ in range(50):
            rows = some_functions(chance)
            mixed = list(rows)
            chance.shuffle(mixed)
            self.assertEqual(forms(Program(rows)), forms(Program(mixed)))

    def test_names_of_functions_and_parameters(self):
        chance = random.Random(5)
        names = {"f": "zf", "g": "ag", "h": "m", "k": "b", "m": "y", "x": "q", "y": "p"}
        back = {"q": "x", "p": "y"}
        for _ in range(150):
            rows = some_functions(chance)
            other = Program([self.renamed(row, {**names, "take": "take"}) for row in rows])
            for name, form in forms(Program(rows)).items():
                found = form_of(other, names[name])
                terms = [(line, shut, back.get(tag, tag), tuple(sorted(back[one] for one in returned))) for line, shut, tag, returned in found.terms]
                self.assertEqual(sorted(terms), sorted(form.terms))
                self.assertEqual(least_sets([tuple(sorted(back[one] for one in callbacks)) for callbacks in found.endless]), form.endless)


class Numbers(Case):
    def too_many(self, name, function, *rows):
        program = Program(rows)
        for action in (form_of, needed):
            self.fails(TooMany, {"name": name}, action, program, function)
        self.fails(TooMany, {"name": name}, instance_form, program, function, (function, program.params(function)))
        self.fails(TooMany, {"name": name}, instance_form, program, function, None)

    def test_bodies(self):
        plain = [(letter, (), ()) for letter in "abcdefghi"]
        nine = ("nine", (), tuple(call(letter) for letter in "abcdefghi"))
        eight = ("eight", (), tuple(call(letter) for letter in "abcdefgh"))
        self.too_many("nine", "nine", nine, *plain)
        self.is_same(text("eight", eight, nine, *plain), "form\nnow 0\nend 0\n")
        self.too_many("nine", "main", ("main", (), (STOP, call("nine"))), nine, *plain)
        big = ("big", (), BIG)
        self.too_many("big", "big", big, *plain)
        self.too_many("big", "main", ("main", (), (call("nine"), call("big"))), nine, big, *plain)
        self.too_many("nine", "main", ("main", (), (call("nine"), call("zig"))), nine, ("zig", (), BIG), *plain)
        self.is_same(text("fits", ("fits", (), (*BIG[:-1], STOP)), *plain).count("\n"), 13)

    def test_bodies_of_what_is_never_come_to(self):
        plain = [(letter, (), ()) for letter in "ab"]
        self.too_many("big", "main", ("main", (), (STOP, call("f", "big"))), ("f", ("c",), (STOP, DO_C)), ("big", (), BIG), *plain)
        self.is_same(text("main", ("main", (), (STOP, call("f", "big"))), ("f", ("c",), ()), ("big", (), BIG), *plain), "form\nnow 0\n")

    def test_a_parameter_of_a_big_body(self):
        body = (*BIG[:-4], DO_C, ("take", 1, "x"), DO_D, ("take", 1, "y"))
        self.too_many("big", "main", ("main", ("c",), (call("big", "c", "c"),)), ("big", ("c", "d"), body))

    def test_sixty_instances_and_more(self):
        names = [f"n{letter}" for letter in LETTERS[:8]]
        plain = [(name, (), ()) for name in names]
        for count in (51, 52):
            # f, eight helpers, and the instances of g: each helper calls at most seven of them.
            pairs = [(one, other) for one in names for other in names][:count]
            blocks = [pairs[at:at + 7] for at in range(0, count, 7)]
            helpers = [(f"p{LETTERS[at]}", (), tuple(call("g", *pair) for pair in block)) for at, block in enumerate(blocks)]
            rows = [("f", (), tuple(call(helper[0]) for helper in helpers)), ("g", ("x", "y"), ()), *plain, *helpers]
            program = Program(rows)
            if count == 51:
                self.is_same(len(needed(program, "f")), 60)
                self.is_same(form_text(form_of(program, "f")), "form\nnow 0\nend 0\n")
                continue
            self.too_many("f", "f", *rows)
            self.fails(TooMany, {"name": "f"}, forms, program)
            many = ("pc", (), (*curve(12), *[statement for name in ("na", "nb") for statement in (call(name), ("take", 1, name[1] * 2))], call("g", "na", "na")))
            self.too_many("pc", "f", *[many if row[0] == "pc" else row for row in rows])
            self.is_same(len(needed(program, "pa")), 8)

    def test_terms_of_instances(self):
        big = ("big", (), curve(15))
        frames = ("either", (("either", (("take", 5, "w"),), (("take", 5, "x"),)),), (("either", (("take", 5, "y"),), (("take", 5, "z"),)),))

        def many(name):
            return (name, (), (frames, call("big")))

        self.is_same(len(form_of(Program([big]), "big")), 16)
        self.is_same(len(form_of(Program([big, ("f", (), (frames, call("big"), STOP))]), "f")), 60)
        self.too_many("f", "f", big, many("f"))
        self.too_many("b", "z", big, ("z", (), (call("b"),)), many("b"))
        self.too_many("e", "z", big, ("z", (), (call("f"), call("e"))), many("f"), many("e"))
        self.too_many("a", "a", big, ("a", (), (call("f"), call("e"))), many("f"), many("e"))
        # The form of a has few terms, but what it needs has too many.
        covering = ("either", (*[("take", 10 ** 6, frame) for frame in "abwxyz"], STOP), ())
        rows = [big, ("a", (), (covering, call("f"))), many("f")]
        self.too_many("f", "a", *rows)
        self.too_many("f", "a", big, ("a", (), (STOP, call("f"))), many("f"))
        self.too_many("g", "a", big, ("a", (), (STOP, call("g", "e"))), ("g", ("x",), (frames, ("do", "x"))), ("e", (), (call("big"),)))

    def test_terms_behind_what_is_endless(self):
        big = [("m", (), (call("n"), ("either", (("take", 5, "w"),), (("either", (("take", 5, "x"),), (("take", 5, "y"),)),)), call("o"))),
               ("n", (), ()), ("o", (), (call("p"),)), ("p", (), curve(20))]
        self.too_many("m", "m", *big)
        self.too_many("l", "l", ("l", ("c",), (DO_C, call("m"))), *big)
        self.too_many("m", "l", ("l", ("c",), (DO_C, call("m"), ("loop", None, (A,)))), *big)
        self.too_many("m", "l", ("l", ("c", "d"), (DO_D, ("either", (DO_C, call("m"), ("loop", None, (A,))), ()))), *big)
        self.too_many("l", "l", ("l", ("c", "d"), (DO_D, ("either", (DO_C, ("loop", None, (A,))), (call("m"),)))), *big)
        self.too_many("m", "l", ("l", (), (call("k", "n"),)), ("k", ("c",), (DO_C, STOP, call("m"))), *big)

    def test_terms_that_multiply(self):
        """The number of the terms decides, as the terms that are reached tell it."""
        chance = random.Random(6)
        outcomes = {True: 0, False: 0}
        for _ in range(60):
            def choice(many, frames, after):
                ways = [tuple(("take", chance.randint(1, 9), frame) for frame in chance.sample(frames, 2)) for _ in range(many)]
                ways = [(*way, ("shut", ("u",))) if chance.random() < .3 else way for way in ways]
                while len(ways) > 1:
                    ways = [(("either", ways[at], ways[at + 1]),) if at + 1 < len(ways) else ways[at] for at in range(0, len(ways), 2)]
                return (*ways[0], *after)

            frames = "abcdef"[:chance.randint(4, 6)]
            rows = [("a", (), choice(chance.randint(3, 8), frames, (call("b"),))), ("b", (), choice(chance.randint(3, 7), frames, (call("c"),))),
                    ("c", (), choice(chance.randint(3, 6), frames, ()))]
            program = Program(rows)
            counts = {name: len(least_terms(reached(inlined(rows, name, 5)))) for name in "abc"}
            many = [name for name in "abc" if counts[name] > 60]
            outcomes[bool(many)] += 1
            if many:
                self.too_many(many[0], "a", *rows)
            else:
                self.is_same(len(form_of(program, "a")), counts["a"], rows)
        self.assertGreater(min(outcomes.values()), 5, outcomes)

    def test_a_long_chain_of_calls(self):
        frames = "abcdef"
        names = [f"c{letter}" for letter in "abcdefghijkl"]
        rows = []
        for at, name in enumerate(names):
            ways = [(("take", 1 + (at * 7 + 3 * side) % 11, frames[(at + side) % 6]), ("take", 1 + (at * 5 + side) % 7, frames[(at * side + 2) % 6])) for side in range(4)]
            after = (call(names[at + 1]),) if at + 1 < len(names) else ()
            rows.append((name, (), (("either", ways[0], ways[1]), ("either", ways[2], ways[3]), *after)))
        self.too_many("ca", "ca", *rows)
        self.too_many("cd", "cd", *rows)
        # What is called first covers all that is called behind it.
        covering = ("either", (*[("take", 10 ** 6, frame) for frame in frames], STOP), ())
        last = rows[-4:]
        self.too_many("ci", "ci", *last)
        self.too_many("ci", "a", ("a", (), (covering, call("ci"))), *last)
        self.too_many("ci", "a", ("a", (), (covering, call("ci"), call("a"))), *last)

    def test_forms_of_the_first_function(self):
        plain = [(letter, (), ()) for letter in "ab"]
        rows = [("d", (), (call("y"),)), ("c", (), (call("x"),)), ("x", (), BIG), ("y", (), BIG), *plain]
        self.fails(TooMany, {"name": "x"}, forms, Program(rows))
        self.is_same(len(form_of(Program(rows), "a")), 2)


if __name__ == "__main__":
    unittest.main()
