import random
import unittest

from nestdeep.bodies import either
from nestdeep.claims import claim_of
from nestdeep.errors import InvalidChain, InvalidCount, InvalidSizes, TooMany
from nestdeep.forms import Form
from nestdeep.house import House
from nestdeep.lines import line_size
from nestdeep.machine import Machine
from nestdeep.nestpapers import chain_moment, house_fault, is_house_chain, is_house_ring, keeps
from nestdeep.nests import greatest_depth, house_ring, is_endless, lines_of
from nestdeep.plateaus import chain_to
from nestdeep.programs import Program
from nestdeep.rings import ring_of
from tests.helpers import BIG, ODD_VALUES, Case
from tests.houses import bound_fault, call, house_of, some_house, some_sizes
from tests.odd import odd_keys, odd_values, oddly_spoilt
from tests.programs import judged_house_chain, moments_of
from tests.test_bodies import curve, points_of_curve
from tests.test_rings import spoilt

A, B, STOP = ("take", 1, "a"), ("take", 1, "b"), ("stop",)
MOST = 10 ** 12
START, END = ((), (), "now", ()), ((), (), "end", ())
NINE = tuple(call(letter) for letter in "cdefghijk")
PLAIN = {letter: () for letter in "cdefghijk"}


def shut(*names):
    return ("shut", names)


def bounds_case(times):
    """The case in the point of bounds."""
    return house_of({"u": ("hu", times, ()), "v": ("hv", 1, ())}, main=(),
                    hu=(("either", (A,), (shut("u", "v"), ("take", 4, "a"))),), hv=(shut("u"), ("take", 2, "a")))


class Keeping(Case):
    def keeps(self, house, sizes, depth):
        """The house keeps just the limits from the depth on; the papers of it are right."""
        for limit in {0, depth - 1, depth, depth + 1, BIG} - {-1}:
            holds, paper = keeps(house, sizes, limit)
            self.is_same(holds, limit >= depth, (house, limit))
            if holds:
                self.gives(None, house_fault, house, sizes, limit, paper)
                self.assertIsNone(bound_fault(house, sizes, limit, paper))
                self.assertEqual((type(paper), type(paper[0]), type(paper[1])), (tuple, dict, dict))
            else:
                self.gives(True, is_house_chain, house, paper)
                line, _ = chain_moment(house, paper)
                self.is_same((line, _), judged_house_chain(house, paper))
                self.assertGreater(line_size(line, sizes), limit)

    def test_the_case_of_bounds(self):
        for times, depth in ((5, 8), (MOST, MOST + 3), (1, 4), (2, 5)):
            house = bounds_case(times)
            self.keeps(house, {"a": 1}, depth)
            self.keeps(house, {"a": 7}, 7 * depth)
            bounds = keeps(house, {"a": 1}, depth)[1][1]
            self.is_same(bounds[((), ())], depth)
            self.is_same(bounds[(("u", "v"), (("u", 1),))], 0)

    def test_without_handlers(self):
        self.keeps(house_of(None, main=()), {}, 0)
        self.keeps(house_of({}, main=(("either", (A,), (B,)),)), {"a": 3, "b": 2, "z": None}, 3)
        holds, (claims, bounds) = keeps(house_of(None, main=(A, shut("u"))), {"a": 1}, 1)
        self.assertEqual((holds, list(claims), bounds), (True, ["main"], {((), ()): 0}))

    def test_handlers_once_often_and_always(self):
        for times in (1, 2, MOST):
            self.keeps(house_of({"u": ("tick", times, ())}, main=(A,), tick=(B,)), {"a": 5, "b": 2}, 5 + 2 * times)
            self.keeps(house_of({"u": ("tick", times, ("u",))}, main=(A,), tick=(B,)), {"a": 5, "b": 2}, 7)
            self.keeps(house_of({"u": ("tick", times, ())}, shut=("u",), main=(A,), tick=(B,)), {"a": 5, "b": 2}, 5)
            self.keeps(house_of({"u": ("main", times, ())}, main=(A,)), {"a": 5}, 5 + 5 * times)

    def test_handlers_that_shut_one_another(self):
        bodies = {"main": (), "fa": (A,), "fb": (B,)}
        sizes = {"a": 3, "b": 10}
        self.keeps(house_of({"u": ("fa", 9, ("v",)), "v": ("fb", 1, ())}, **bodies), sizes, 37)
        self.keeps(house_of({"u": ("fa", 9, ("v",)), "v": ("fb", 2, ("u",))}, **bodies), sizes, 27)
        self.keeps(house_of({"u": ("fa", 9, ("v",)), "v": ("fb", 4, ("u",))}, **bodies), sizes, 40)
        self.keeps(house_of({"u": ("fa", 9, ("u", "v")), "v": ("fb", 4, ("u", "v"))}, **bodies), sizes, 10)
        self.keeps(house_of({"u": ("fa", 9, ("u",)), "v": ("fb", MOST, ())}, shut=("v",), **bodies), sizes, 3)

    def test_a_less_deep_place_with_all_open(self):
        house = house_of({"u": ("tick", 3, ())}, main=(A, ("either", (shut("u"), ("take", 8, "a")), ())),
                         tick=(("either", (("take", 5, "b"),), (shut("u"), ("take", 6, "b"))),))
        for a in range(1, 12):
            self.keeps(house, {"a": a, "b": 4}, max(9 * a, a + 64))

    def test_more_lines_than_lines_of_tells(self):
        house = house_of({"u": ("hu", 1, ()), "v": ("hv", 3, ("u",))}, main=curve(15), hu=curve(15, "wx"), hv=curve(15, "yz"))
        self.fails(TooMany, {"name": None}, lines_of, house)
        for sizes in ({"a": 3, "b": 20, "w": 7, "x": 9, "y": 30, "z": 5}, {"a": 1, "b": 1, "w": 1, "x": 1, "y": 1, "z": 1}):
            most = [max(sizes[one] * first + sizes[other] * second for first, second in points_of_curve(15)) for one, other in ("ab", "wx", "yz")]
            self.keeps(house, sizes, most[0] + most[1] + 3 * most[2])

    def test_endless_houses(self):
        deep = (("loop", None, (A,)),)
        for house, interrupt in (
            (house_of(None, main=deep), None), (house_of({"u": ("deep", 1, ())}, main=(), deep=deep), "u"),
            (house_of({"u": ("deep", 1, ("u",)), "v": ("main", 1, ())}, shut=("v",), main=(), deep=(A, call("deep"))), "u"),
        ):
            for limit in (0, 1, BIG):
                holds, paper = keeps(house, {"a": 1}, limit)
                self.is_same(holds, False)
                self.is_same(paper[0], interrupt)
                self.gives(True, is_house_ring, house, paper)
                self.gives(False, is_house_chain, house, paper)
            functions = sorted({house.task, *([] if interrupt is None else ["deep"])})
            claims = {name: claim_of(house.program, name) for name in functions}
            self.gives(("function", "deep" if interrupt else "main"), house_fault, house, {"a": 1}, BIG, (claims, {((), ()): BIG}))

    def test_a_handler_that_never_comes_may_be_endless(self):
        house = house_of({"u": ("deep", 1, ()), "v": ("tick", 2, ())}, shut=("u",), main=(A,), tick=(B,), deep=(B, call("deep")))
        self.keeps(house, {"a": 1, "b": 1}, 3)
        self.assertEqual(sorted(keeps(house, {"a": 1, "b": 1}, 3)[1][0]), ["main", "tick"])

    def test_errors(self):
        house = house_of({"u": ("tick", 1, ())}, main=(A,), tick=(B,))
        many = house_of({"u": ("nx", 1, ())}, main=(A,), nx=(*NINE, B), **PLAIN)
        for one in (house, many):
            for action in (lambda *args: keeps(one, *args), lambda *args: house_fault(one, *args, None)):
                for value in ODD_VALUES:
                    if not isinstance(value, dict):
                        self.raises(InvalidSizes, "name", None, action, value, None)
                    if not (type(value) is int and value > 0):
                        self.raises(InvalidSizes, "name", "b", action, {"a": 1, "b": value}, None)
                    if not (type(value) is int and value >= 0):
                        self.raises(InvalidCount, "value", value, action, {"a": 1, "b": 1}, value)
                self.raises(InvalidSizes, "name", "a", action, {"b": 0}, None)
                for odd in odd_values():
                    self.raises(InvalidSizes, "name", None, action, odd, odd)
                    self.raises(InvalidSizes, "name", "a", action, {"a": odd, "b": 1}, odd)
                    self.raises(InvalidCount, "value", odd, action, {"a": 1, "b": 1}, odd)
                for odd in odd_keys():
                    self.raises(InvalidSizes, "name", "a", action, {odd: 1}, 0)

    def raises(self, error, field, value, action, *args):
        with self.assertRaises(error) as caught:
            action(*args)
        self.assertIs(getattr(caught.exception, field), value)

    def test_too_many(self):
        one = house_of({"u": ("nx", 1, ()), "v": ("nw", 1, ())}, main=(), nw=NINE, nx=(*NINE, A), **PLAIN)
        two = house_of({"u": ("nx", 1, ())}, main=NINE, nx=(*NINE, A), **PLAIN)
        three = house_of({"u": ("nx", 1, ())}, shut=("u",), main=(), nx=NINE, **PLAIN)
        for house, name in ((one, "nx"), (two, "main"), (three, "nx")):
            self.fails(TooMany, {"name": name}, keeps, house, {"a": 1}, 5)
            self.fails(TooMany, {"name": name}, house_fault, house, {"a": 1}, 5, None)
            start = (((house.task, ()), ((), "now")),), ()
            above = ((("nx", ()), ((), "call")), (("c", ()), ((), "now"))), ()
            chain = ((None, 1, start),) if house.shut else ((None, 1, start), ("u", 1, above))
            self.gives(True, is_house_chain, house, chain)
            self.gives(((), house.shut), chain_moment, house, chain)
            self.gives(False, is_house_ring, house, (None, None))

    def test_names_of_arguments(self):
        house = house_of({"u": ("tick", 1, ())}, main=(A,), tick=(B,))
        holds, claim = keeps(house=house, sizes={"a": 1, "b": 1}, limit=2)
        self.is_same(holds, True)
        self.gives(None, house_fault, house=house, sizes={"a": 1, "b": 1}, limit=2, value=claim)
        holds, chain = keeps(house=house, sizes={"a": 1, "b": 1}, limit=1)
        self.gives(True, is_house_chain, house=house, value=chain)
        self.gives(((("a", 1), ("b", 1)), ()), chain_moment, house=house, chain=chain)
        self.gives(False, is_house_ring, house=house, value=chain)

    def test_claims_are_new_each_time(self):
        house = bounds_case(3)
        first, second = keeps(house, {"a": 1}, 99)[1], keeps(house, {"a": 1}, 99)[1]
        self.assertEqual(first, second)
        first[0]["main"].clear()
        first[0].clear()
        first[1].clear()
        self.assertEqual(keeps(house, {"a": 1}, 99)[1], second)

    def test_some_houses(self):
        """Greatest depths are those of the lines, and of all that is reached when the houses are performed."""
        chance = random.Random(61)
        kept = whole_ones = endless = 0
        for _ in range(300):
            house = some_house(chance)
            if house is None:
                continue
            sizes = some_sizes(chance, house.program)
            if is_endless(house):
                holds, ring = keeps(house, sizes, BIG)
                self.is_same((holds, is_house_ring(house, ring)), (False, True))
                endless += 1
                continue
            depth = greatest_depth(house, sizes)[0]
            self.keeps(house, sizes, depth)
            kept += 1
            if all(house.handler(name)[1] < 4 for name in house):
                found, whole = moments_of(house, 300)
                deepest = max(line_size(line, sizes) for line, _ in found)
                self.assertLessEqual(deepest, depth)
                if whole:
                    self.is_same(deepest, depth, house.program)
                    whole_ones += 1
        self.assertGreater(kept, 200)
        self.assertGreater(whole_ones, 50)
        self.assertGreater(endless, 3)


class Faults(Case):
    """Claims of houses with one thing spoilt."""

    HOUSE = house_of({"u": ("hu", 5, ()), "v": ("hv", 1, ())}, main=(("either", (B,), (shut("u"), ("take", 2, "b"))),),
                     hu=(("either", (A,), (shut("u", "v"), ("take", 4, "a"))),), hv=(shut("u"), ("take", 2, "a")))
    SIZES = {"a": 1, "b": 1}

    def claim(self, limit=9):
        holds, claim = keeps(self.HOUSE, self.SIZES, limit)
        self.is_same(holds, True)
        return claim

    def has(self, fault, claims, bounds, limit=9, house=None, sizes=None):
        house, sizes = house or self.HOUSE, sizes or self.SIZES
        self.gives(fault, house_fault, house, sizes, limit, (claims, bounds))
        self.is_same(bound_fault(house, sizes, limit, (claims, bounds)), fault)

    def test_no_claims(self):
        claims, bounds = self.claim()
        for value in (*ODD_VALUES, (claims,), (claims, bounds, None), [claims, bounds], {0: claims, 1: bounds}, (None, bounds), (claims, None), (bounds, claims),
                      (list(claims.items()), bounds), (claims, list(bounds.items()))):
            self.is_same(house_fault(self.HOUSE, self.SIZES, 9, value), ("claim", None))
        for odd in odd_values():
            for value in (odd, (odd, bounds), (claims, odd), (odd, odd)):
                self.is_same(house_fault(self.HOUSE, self.SIZES, 9, value), ("claim", None))

    def test_keys_of_claims(self):
        claims, bounds = self.claim()
        for name in claims:
            self.has(("claim", None), {other: claims[other] for other in claims if other != name}, bounds)
        self.has(("claim", None), {**claims, "hw": claims["hu"]}, bounds)
        self.has(("claim", None), {}, bounds)
        for name in claims:
            self.has(("claim", None), {other if other != name else "hw": claims[other] for other in claims}, bounds)
        for key in (None, 1, ("main",), b"main", *odd_keys()):
            self.is_same(house_fault(self.HOUSE, self.SIZES, 9, ({**claims, key: claims["hu"]}, bounds)), ("claim", None))
            others = {name: claims[name] for name in claims if name != "hv"}
            self.is_same(house_fault(self.HOUSE, self.SIZES, 9, ({**others, key: claims["hv"]}, bounds)), ("claim", None))
        house = House(self.HOUSE.program, "main", self.HOUSE.handlers(), shut=("v",))
        self.has(("claim", None), claims, bounds, house=house)
        self.has(("claim", None), {"main": claims["main"]}, bounds, house=house)

    def test_claims_that_do_not_hold(self):
        claims, bounds = self.claim()
        for name in claims:
            form = claims[name][name, ()]
            for wrong in (None, {}, [], {(name, ()): None}, {("zz", ()): form}, {(name, ()): Form((), (), (START, END))},
                          {(name, ()): Form(("c",), (), (START, END))}, {(name, ()): form, ("main", ("x",)): form}):
                self.is_same(house_fault(self.HOUSE, self.SIZES, 9, ({**claims, name: wrong}, bounds)), ("function", name))
            for odd in odd_values():
                self.is_same(house_fault(self.HOUSE, self.SIZES, 9, ({**claims, name: odd}, bounds)), ("function", name))
                self.is_same(house_fault(self.HOUSE, self.SIZES, 9, ({**claims, name: {(name, ()): odd}}, bounds)), ("function", name))
        wrong = {"main": None, "hu": None, "hv": None}
        self.is_same(house_fault(self.HOUSE, self.SIZES, 9, (wrong, bounds)), ("function", "hu"))
        self.is_same(house_fault(self.HOUSE, self.SIZES, 9, ({**wrong, "hu": claims["hu"]}, bounds)), ("function", "hv"))
        self.is_same(house_fault(self.HOUSE, self.SIZES, 9, ({**claims, "main": None}, {None: None})), ("function", "main"))

    def test_claims_that_are_endless_or_have_another_frame(self):
        claims, bounds = self.claim()
        for name in claims:
            form = claims[name][name, ()]
            self.has(("function", name), {**claims, name: {(name, ()): Form((), ((),), ())}}, bounds)
            more = either(form, Form((), (), (START, ((("z", 1),), ("u", "v"), "now", ()), END)))
            self.has(("function", name), {**claims, name: {(name, ()): more}}, bounds)
            same = either(form, Form((), (), (START, ((("a", 1),), ("u", "v"), "now", ()), END)))
            self.assertNotEqual(house_fault(self.HOUSE, self.SIZES, 9, ({**claims, name: {(name, ()): same}}, bounds)), ("function", name))
        self.assertIsNone(house_fault(self.HOUSE, self.SIZES, 9, (claims, bounds)))

    def test_frames_and_endless_sets_of_further_instances(self):
        # Only the form for the function's own instance is asked for endless sets and frames.
        house = house_of(None, main=(A, ("either", (), (STOP, call("inner")))), inner=())
        holds, (claims, bounds) = keeps(house, {"a": 1}, 1)
        claim = dict(claims["main"])
        self.assertEqual(list(claim), [("inner", ()), ("main", ())])
        claim["inner", ()] = Form((), (), (((("z", 5),), (), "now", ()), END))
        self.gives(None, house_fault, house, {"a": 1}, 1, ({"main": claim}, bounds))
        claim["inner", ()] = Form((), ((),), ())
        self.gives(None, house_fault, house, {"a": 1}, 1, ({"main": claim}, bounds))

    def test_claims_that_are_greater_than_needed(self):
        claims, bounds = self.claim(20)
        more = {name: {(name, ()): either(claims[name][name, ()], Form((), (), (START, ((("a", 3),), ("u", "v"), "now", ()), END)))} for name in claims}
        self.assertNotEqual(more["hv"], claims["hv"])
        fault = house_fault(self.HOUSE, self.SIZES, 20, (more, bounds))
        self.is_same(fault, bound_fault(self.HOUSE, self.SIZES, 20, (more, bounds)))
        great = {state: 100 * (3 - len(state[0])) for state in bounds}
        self.has(None, more, {**great, (("u", "v"), ()): 0, (("u", "v"), (("v", 1),)): 0, (("u", "v"), (("u", 1),)): 0}, 1000)

    def test_states(self):
        claims, bounds = self.claim()
        for key in ((), ((),), ((), (), ()), ("u", ()), (("u",), ("u", 1)), (("v", "u"), ()), (("u", "u"), ()), (("w",), ()), ((), (("u", 0),)), ((), (("u", 6),)), ((), (("v", 2),)),
                    ((), (("v", 1), ("u", 1))), ((), (("u", 1), ("u", 2))), ((), (("w", 1),)), ((), (("u", True),)), ((), (("u", None),)), ((), (("u",),)), ((), (("u", 1, 1),)), (None, ()), ((), None),
                    (("main",), ()), None, 1, "u", ((), ((None, 1),)), (frozenset(), ())):
            self.is_same(house_fault(self.HOUSE, self.SIZES, 9, (claims, {**bounds, key: 50})), ("states", None), key)
            self.is_same(house_fault(self.HOUSE, self.SIZES, 9, (claims, {key: 50, **bounds})), ("states", None), key)
        for odd in odd_keys():
            for key in (odd, (odd, ()), ((), odd), ((odd,), ()), ((), (odd,)), ((), ((odd, 1),)), ((), (("u", odd),))):
                self.is_same(house_fault(self.HOUSE, self.SIZES, 9, (claims, {**bounds, key: 50})), ("states", None))
        for state in bounds:
            for value in (*ODD_VALUES, *odd_values()):
                if not (type(value) is int and value >= 0):
                    self.is_same(house_fault(self.HOUSE, self.SIZES, 9, (claims, {**bounds, state: value})), ("states", None))
        self.is_same(house_fault(self.HOUSE, self.SIZES, 0, (claims, {**bounds, None: 0})), ("states", None))
        for key, bound in (((("u", "v"), (("u", 5),)), 0), ((("u", "v"), (("u", 5), ("v", 1))), 7), ((("u",), (("u", 1), ("v", 1))), 99), (((), (("u", 5), ("v", 1))), 0)):
            self.has(None, claims, {**bounds, key: bound})

    def test_what_a_house_shuts_does_not_count(self):
        house = House(self.HOUSE.program, "main", self.HOUSE.handlers(), shut=("v",))
        holds, (claims, bounds) = keeps(house, self.SIZES, 9)
        self.assertEqual(sorted(claims), ["hu", "main"])
        self.has(None, claims, bounds, house=house)
        for key in ((("v",), ()), (("u", "v"), ()), ((), (("v", 1),))):
            self.has(("states", None), claims, {**bounds, key: 50}, house=house)

    def test_limits(self):
        claims, bounds = self.claim()
        first, second, third = [term for term in claims["main"]["main", ()].terms if term[2] == "now"][:2] + [None]
        self.is_same((first, second), (((("b", 1),), (), "now", ()), ((("b", 2),), ("u",), "now", ())))
        self.has(None, claims, bounds)
        self.has(("limit", first), claims, bounds, 8)
        self.has(("limit", first), claims, bounds, 0)
        self.has(("limit", first), claims, {state: bounds[state] for state in bounds if state != ((), ())})
        self.has(("limit", first), claims, {**bounds, ((), ()): 9})
        self.has(None, claims, {**bounds, ((), ()): 9}, 10)
        self.has(("limit", second), claims, {state: bounds[state] for state in bounds if state != (("u",), ())})
        self.has(("limit", second), claims, {**bounds, (("u",), ()): 8})
        self.has(("limit", first), claims, {})
        self.has(("limit", first), claims, {**bounds, ((), ()): 9, (("u",), ()): 0})

    def test_bounds_that_are_too_small_or_lack(self):
        claims, bounds = self.claim()
        deep = ((("a", 4),), ("u", "v"), "now", ())
        other = ((("a", 2),), ("u",), "now", ())
        self.is_same(bounds[(), ()], 8)
        self.has(("bulk", ((), ())), claims, {**bounds, ((), ()): 4})
        self.has(("closer", ((), ()), "u", deep), claims, {**bounds, ((), ()): 7})
        self.has(("closer", ((), ()), "u", deep), claims, {state: bounds[state] for state in bounds if state != (("u", "v"), (("u", 1),))})
        self.has(("closer", ((), ()), "v", other), claims, {state: bounds[state] for state in bounds if state != (("u",), (("v", 1),))})
        self.has(("closer", ((), ()), "v", other), claims, {**bounds, (("u",), (("v", 1),)): 4})
        self.has(("closer", ((), ()), "u", deep), claims, {**bounds, (("u", "v"), (("u", 1),)): 1})
        self.has(("bulk", (("u",), ())), claims, {**bounds, (("u",), ()): 1})
        self.has(("bulk", ((), ())), claims, {**bounds, ((), ()): 0, (("u",), ()): 1})
        for state in bounds:
            if bounds[state] > 0:
                fault = house_fault(self.HOUSE, self.SIZES, 9, (claims, {**bounds, state: bounds[state] - 1}))
                self.assertIn(fault[0], ("bulk", "closer"))
                self.is_same(fault, bound_fault(self.HOUSE, self.SIZES, 9, (claims, {**bounds, state: bounds[state] - 1})))
            self.has(house_fault(self.HOUSE, self.SIZES, 9, (claims, {one: bounds[one] for one in bounds if one != state})), claims, {one: bounds[one] for one in bounds if one != state})

    def test_what_is_used_up(self):
        # A handler that stands once, and shuts something new, is used up: nothing of it is left behind it.
        house = house_of({"u": ("hu", 1, ()), "v": ("hv", 2, ())}, main=(), hu=(shut("v"), A), hv=(("take", 7, "a"),))
        holds, (claims, bounds) = keeps(house, {"a": 1}, 15)
        self.is_same(holds, True)
        self.assertEqual(bounds, {((), ()): 15, (("v",), (("u", 1),)): 0})
        self.has(None, claims, bounds, 15, house, {"a": 1})
        self.has(None, claims, {**bounds, ((), (("u", 1),)): 14}, 15, house, {"a": 1})
        self.has(("bulk", ((), (("u", 1),))), claims, {**bounds, ((), (("u", 1),)): 13}, 15, house, {"a": 1})

    def test_some_spoilt_claims(self):
        chance = random.Random(62)
        counts = {}
        for _ in range(160):
            house = some_house(chance, often=.3)
            if house is None or is_endless(house):
                continue
            sizes = some_sizes(chance, house.program)
            depth = greatest_depth(house, sizes)[0]
            limit = depth + chance.choice([0, 0, 1, 5])
            claims, bounds = keeps(house, sizes, limit)[1]
            for _ in range(12):
                wrong = self.spoilt_bounds(chance, dict(bounds), house)
                fault = bound_fault(house, sizes, limit, (claims, wrong))
                self.is_same(house_fault(house, sizes, limit, (claims, wrong)), fault, (house.program, house.handlers(), wrong))
                counts[fault and fault[0]] = counts.get(fault and fault[0], 0) + 1
                if fault is None:
                    # What is kept by a claim is kept.
                    self.assertLessEqual(depth, limit)
        self.assertGreater(min(counts[word] for word in (None, "limit", "bulk", "closer")), 20, counts)

    def spoilt_bounds(self, chance, bounds, house):
        state = chance.choice(list(bounds))
        way = chance.randint(0, 5)
        if way == 0:
            del bounds[state]
        elif way == 1 and len(house):
            name = chance.choice(list(house))
            bounds[tuple(sorted({*state[0], name})), state[1]] = chance.randint(0, 9)
        elif way == 2 and len(house):
            name = chance.choice(list(house))
            bounds[state[0], tuple(sorted({**dict(state[1]), name: chance.randint(1, 2)}.items()))] = chance.randint(0, 30)
        elif way == 3:
            bounds[state] += chance.randint(0, 3)
        else:
            bounds[state] = max(0, bounds[state] - chance.randint(1, 5))
        return bounds


class Chains(Case):
    HOUSE = house_of({"u": ("hu", 3, ()), "v": ("hv", 2, ("u",)), "w": ("hu", 1, ("w",))}, shut=(),
                     main=(("take", 2, "b"), ("either", (shut("v"),), ())), hu=(A, shut("v"), ("take", 3, "a")), hv=(("take", 9, "c"),))

    @classmethod
    def setUpClass(cls):
        cls.main = {number: ((("main", ()), way),) for number, way in enumerate(
            [((), "now"), ((None,), "now"), ((None, (0, ((None,), "end"))), "now"), ((None, (1, ((), "end"))), "now")])}
        cls.hu = {number: ((("hu", ()), ((None,) * number, "now")),) for number in range(4)}
        cls.hv = {number: ((("hv", ()), ((None,) * number, "now")),) for number in range(2)}

    def reaches(self, moment, *piles):
        chain = tuple((interrupt, count, (links, ())) for interrupt, count, links in piles)
        self.gives(moment, chain_moment, self.HOUSE, chain)
        self.gives(True, is_house_chain, self.HOUSE, chain)
        self.is_same(judged_house_chain(self.HOUSE, chain), moment)

    def none(self, *piles):
        self.none_of(tuple((interrupt, count, (links, ())) for interrupt, count, links in piles))

    def none_of(self, chain, house=None):
        self.assertIs(is_house_chain(house or self.HOUSE, chain), False, chain)
        with self.assertRaises(InvalidChain) as caught:
            chain_moment(house or self.HOUSE, chain)
        self.assertIs(caught.exception.value, chain)

    def test_moments(self):
        main, hu, hv = self.main, self.hu, self.hv
        self.reaches(((), ()), (None, 1, main[0]))
        self.reaches(((("b", 2),), ("v",)), (None, 1, main[2]))
        self.reaches(((("a", 3), ("b", 2)), ()), (None, 1, main[1]), ("u", 3, hu[1]))
        self.reaches(((("a", 12), ("b", 2)), ("v",)), (None, 1, main[1]), ("u", 3, hu[3]))
        self.reaches(((("a", 9), ("b", 2)), ("v",)), (None, 1, main[1]), ("u", 1, hu[1]), ("u", 2, hu[3]))
        self.reaches(((("b", 2), ("c", 18)), ("u",)), (None, 1, main[3]), ("v", 2, hv[1]))
        self.reaches(((("a", 7), ("c", 18)), ("u", "v", "w")), (None, 1, main[0]), ("u", 3, hu[1]), ("v", 1, hv[1]), ("v", 1, hv[1]), ("w", 1, hu[3]))
        self.reaches(((("a", 13),), ("v", "w")), (None, 1, main[0]), ("w", 1, hu[3]), ("u", 2, hu[3]), ("u", 1, hu[1]))

    def test_a_moment_is_one_of_a_run(self):
        machine = Machine(self.HOUSE)
        for event in (("go",), ("come", "u"), ("go",), ("come", "u"), ("go",), ("come", "v"), ("go",)):
            machine.do(event)
        self.reaches((machine.line, machine.shut), (None, 1, self.main[1]), ("u", 2, self.hu[1]), ("v", 1, self.hv[1]))

    def test_piles_that_cannot_stand(self):
        main, hu, hv = self.main, self.hu, self.hv
        self.none()
        self.none(("u", 1, hu[0]))
        self.none(("u", 1, hu[0]), (None, 1, main[0]))
        self.none((None, 1, main[0]), (None, 1, main[0]))
        self.none((None, 2, main[0]))
        self.none((None, 1, main[0]), ("u", 4, hu[0]))
        self.none((None, 1, main[0]), ("u", 2, hu[0]), ("u", 2, hu[1]))
        self.none((None, 1, main[0]), ("u", 3, hu[0]), ("w", 1, hu[0]), ("u", 1, hu[0]))
        self.none((None, 1, main[0]), ("v", 3, hv[0]))
        self.none((None, 1, main[2]), ("v", 1, hv[0]))
        self.none((None, 1, main[0]), ("u", 1, hu[2]), ("v", 1, hv[0]))
        self.none((None, 1, main[0]), ("v", 1, hv[0]), ("u", 1, hu[0]))
        self.none((None, 1, main[0]), ("w", 2, hu[0]))
        self.none((None, 1, main[0]), ("w", 1, hu[0]), ("w", 1, hu[0]))
        self.none((None, 1, main[0]), ("z", 1, hu[0]))
        self.none((None, 1, main[0]), ("main", 1, main[0]))
        self.none((None, 1, hu[0]))
        self.none((None, 1, main[0]), ("u", 1, hv[0]))
        self.none((None, 1, main[0]), ("u", 1, main[0]))

    def test_a_pile_that_shuts_its_own_interrupt(self):
        # It can stand once; of a handler that shuts it at a deeper place, others may stand below at places that do not.
        house = house_of({"u": ("hu", 5, ()), "v": ("hv", 5, ("v",))}, main=(), hu=(A, shut("u"), A), hv=(B,))
        task = (None, 1, (((("main", ()), ((), "now")),), ()))
        open_place, closed = [(((("hu", ()), ((None,) * many, "now")),), ()) for many in (1, 3)]
        hv = (((("hv", ()), ((None,), "now")),), ())
        self.gives(((("a", 6),), ("u",)), chain_moment, house, (task, ("u", 4, open_place), ("u", 1, closed)))
        self.gives(((("a", 6), ("b", 1)), ("u", "v")), chain_moment, house, (task, ("v", 1, hv), ("u", 4, open_place), ("u", 1, closed)))
        for piles in ((("u", 2, closed),), (("u", 1, closed), ("u", 1, open_place)), (("u", 5, open_place), ("u", 1, closed)), (("v", 2, hv),), (("v", 1, hv), ("v", 1, hv))):
            self.none_of((task, *piles), house)

    def test_what_the_house_shuts(self):
        house = House(self.HOUSE.program, "main", self.HOUSE.handlers(), shut=("u",))
        task, hu, hv = [(links, ()) for links in (self.main[1], self.hu[1], self.hv[1])]
        self.none_of(((None, 1, task), ("u", 1, hu)), house)
        self.gives(((("b", 2),), ("u",)), chain_moment, house, ((None, 1, task),))
        self.gives(((("b", 2), ("c", 9)), ("u",)), chain_moment, house, ((None, 1, task), ("v", 1, hv)))

    def test_other_ends_of_chains(self):
        self.none((None, 1, ((("main", ()), ((None, (1, ((), "end"))), "end")),)))
        self.none((None, 1, self.main[0]), ("u", 1, ((("hu", ()), ((None,) * 3, "end")),)))
        self.none((None, 1, ((("main", ()), ((None,), "call")),)))

    def test_counts(self):
        task, hu = (self.main[0], ()), (self.hu[1], ())
        for value in (*ODD_VALUES, *odd_values()):
            if not (type(value) is int and value == 1):
                self.none_of(((None, value, task),))
                self.none_of(((None, 1, task), ("u", value, hu)))
            self.none_of(((None, 1, task), (value, 1, hu)))
            self.none_of(((None, 1, task), ("u", 1, value)))
            self.none_of(((None, 1, value),))
            self.none_of(((None, 1, task), value))
            self.none_of(value)
        for chain in ([(None, 1, task)], ([None, 1, task],), ((None, 1, list(task)),), ((None, 1, task, None),), ((None, 1),), ((None, 1, ([*task[0]], ())),), (((None, 1, task),),)):
            self.none_of(chain)

    def test_odd_parts(self):
        chain = ((None, 1, (self.main[1], ())), ("u", 2, (self.hu[1], ())), ("v", 1, (self.hv[1], ())))
        self.gives(True, is_house_chain, self.HOUSE, chain)
        for other in oddly_spoilt(chain):
            self.none_of(other)

    def test_some_spoilt_chains(self):
        chance = random.Random(63)
        counts = {True: 0, False: 0}
        for _ in range(150):
            house = some_house(chance)
            if house is None or is_endless(house):
                continue
            for line in lines_of(house)[:3]:
                chain = chain_to(house, line)
                self.is_same(chain_moment(house, chain), judged_house_chain(house, chain))
                self.is_same(chain_moment(house, chain)[0], line)
                for _ in range(15):
                    self.same(chance, counts, house, self.rearranged(chance, chain) if chance.random() < .6 else spoilt(chance, chain))
        self.assertGreater(min(counts.values()), 150, counts)

    def rearranged(self, chance, chain):
        """The chain with another count, another interrupt or another sequence."""
        piles = list(chain)
        way = chance.randint(0, 3)
        at = chance.randrange(len(piles))
        if way == 0:
            piles[at] = (piles[at][0], max(1, piles[at][1] + chance.choice([-1, 1, 2])), piles[at][2])
        elif way == 1:
            piles[at] = (chance.choice([None, "u", "v", "w"]), *piles[at][1:])
        elif way == 2:
            piles.insert(chance.randint(0, len(piles)), chance.choice(piles))
        else:
            chance.shuffle(piles)
        return tuple(piles)

    def same(self, chance, counts, house, chain):
        try:
            wanted = judged_house_chain(house, chain) if self.is_shaped(chain) else None
        except (ValueError, KeyError, TypeError, IndexError, LookupError):
            wanted = None
        found = chain_moment(house, chain) if is_house_chain(house, chain) else None
        if wanted is None and found is not None:
            # What the other judge does not see: it takes chains of other kinds for wrong.
            self.fail((house, chain))
        self.is_same(found, wanted, (house.program, house.handlers(), chain))
        counts[found is not None] += 1

    def is_shaped(self, chain):
        if not isinstance(chain, tuple) or not chain:
            return False
        for pile in chain:
            if not isinstance(pile, tuple) or len(pile) != 3 or type(pile[1]) is not int or not isinstance(pile[2], tuple) or len(pile[2]) != 2:
                return False
            for links in pile[2]:
                if not isinstance(links, tuple) or not all(isinstance(link, tuple) and len(link) == 2 and isinstance(link[0], tuple) and len(link[0]) == 2
                                                           and isinstance(link[0][1], tuple) for link in links):
                    return False
        return True


class Rings(Case):
    DEEP = (A, call("deep"))

    def test_rings(self):
        house = house_of({"u": ("deep", 1, ()), "v": ("deep", 2, ("u",)), "w": ("tick", 1, ())}, shut=("v",), main=(("loop", None, (B,)),), deep=self.DEEP, tick=())
        task, deep = ring_of(house.program, "main", ()), ring_of(house.program, "deep", ())
        for value, wanted in (((None, task), True), (("u", deep), True), (("v", deep), False), (("w", deep), False), ((None, deep), False), (("u", task), False), (("z", deep), False),
                              (("deep", deep), False), ((None, task, None), False), ((None,), False), ([None, task], False), ((None, list(task)), False), ((None, None), False), (task, False),
                              ((("u",), deep), False), ((0, task), False), (("", deep), False)):
            self.gives(wanted, is_house_ring, house, value)
        for value in (*ODD_VALUES, *odd_values()):
            for other in (value, (value, task), (None, value), ("u", value), (value, value)):
                if not (value is None and other == (None, task)):
                    self.assertIs(is_house_ring(house, other), False)
        for other in [*oddly_spoilt((None, task)), *oddly_spoilt(("u", deep))]:
            self.assertIs(is_house_ring(house, other), False)

    def test_house_rings_are_rings(self):
        chance = random.Random(64)
        count = 0
        for _ in range(400):
            house = some_house(chance, loops=(1, None), most=3)
            if house is not None and is_endless(house):
                self.gives(True, is_house_ring, house, house_ring(house))
                count += 1
                for _ in range(5):
                    wrong = spoilt(chance, house_ring(house))
                    if is_house_ring(house, wrong):
                        self.assertTrue(wrong[0] is None or wrong[0] in house and wrong[0] not in house.shut)
        self.assertGreater(count, 20)

    def test_rings_that_need_something_returned(self):
        program = Program([("f", ("c",), (("loop", None, (A, ("do", "c"))),)), ("main", (), (call("f", "stuck"),)), ("stuck", (), (STOP,))])
        house = House(program, "main")
        self.gives(False, is_endless, house)
        ring = ((), ("loop", ("f", ("stuck",)), ((), "now"), ((None, None), "end")), ((("stuck", ()), ((None,), "end")),))
        self.gives(False, is_house_ring, house, (None, ring))


if __name__ == "__main__":
    unittest.main()
