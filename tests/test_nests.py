import random
import unittest

from nestdeep.errors import Endless, InvalidSizes, TooMany, UnknownLine
from nestdeep.house import House
from nestdeep.lines import line_size, line_sum, line_times
from nestdeep.mixes import corners, is_covered
from nestdeep.nests import greatest_depth, house_ring, is_endless, lines_of
from nestdeep.plateaus import chain_to
from nestdeep.programs import Program
from nestdeep.rings import is_ring
from tests.helpers import BIG, ODD_VALUES, Case
from tests.programs import judged_house_chain, moments_of, some_functions
from tests.test_bodies import curve, points_of_curve

A, B, STOP = ("take", 1, "a"), ("take", 1, "b"), ("stop",)
MOST = 10 ** 12


def shut(*names):
    return ("shut", names)


def call(name, *args):
    return ("call", name, args)


def line(**counts):
    return tuple(sorted(counts.items()))


def house_of(handlers, shut=(), **bodies):
    """A house whose task is main; each name is that of a function without parameters, with this body."""
    return House(Program([(name, (), body) for name, body in bodies.items()]), "main", handlers, shut=shut)


class Lines(Case):
    def has(self, house, *lines):
        lines = tuple(sorted(lines))
        self.gives(False, is_endless, house)
        self.gives(None, house_ring, house)
        self.gives(lines, lines_of, house)
        for one in lines:
            self.is_same(judged_house_chain(house, chain_to(house, one))[0], one)

    def test_example(self):
        main = ("main", (), (("take", 2, "p"), ("either", (("shut", ("u",)), ("call", "deep", ())), ())))
        program = Program([main, ("deep", (), (("take", 5, "p"),)), ("fast", (), (("take", 3, "q"),)), ("slow", (), (("take", 10, "q"),))])
        house = House(program, "main", {"u": ("slow", 1, ()), "v": ("fast", 1, ())})
        self.has(house, line(p=2, q=13), line(p=7, q=3))
        self.gives((15, line(p=2, q=13)), greatest_depth, house, {"p": 1, "q": 1})
        self.gives((31, line(p=7, q=3)), greatest_depth, house, {"p": 4, "q": 1})

    def test_the_case_of_bounds(self):
        bodies = {"main": (), "hu": (("either", (A,), (shut("u", "v"), ("take", 4, "a"))),), "hv": (shut("u"), ("take", 2, "a"))}
        self.has(house_of({"u": ("hu", 5, ()), "v": ("hv", 1, ())}, **bodies), line(a=8))
        self.has(house_of({"u": ("hu", MOST, ()), "v": ("hv", 1, ())}, **bodies), line(a=MOST + 3))
        self.has(house_of({"u": ("hu", 1, ()), "v": ("hv", 1, ())}, **bodies), line(a=4))
        self.has(house_of({"u": ("hu", 2, ()), "v": ("hv", MOST, ())}, **bodies), line(a=2 * MOST + 2))

    def test_without_handlers(self):
        self.has(house_of(None, main=()), ())
        self.has(house_of({}, main=(shut("u"), ("either", (A,), (B,)))), line(a=1), line(b=1))
        self.has(house_of(None, main=(call("f"), B), f=(("loop", 7, (A,)),)), line(a=7), line(b=1))

    def test_interrupts_shut_at_first(self):
        bodies = {"main": (A,), "tick": (B,)}
        self.has(house_of({"u": ("tick", 1, ())}, **bodies), line(a=1, b=1))
        self.has(house_of({"u": ("tick", MOST, ())}, **bodies), line(a=1, b=MOST))
        self.has(house_of({"u": ("tick", MOST, ())}, shut=("u",), **bodies), line(a=1))
        self.has(house_of({"u": ("tick", 2, ()), "v": ("tick", 3, ())}, shut=("u",), **bodies), line(a=1, b=3))

    def test_handlers_that_shut_one_another_or_themselves(self):
        bodies = {"main": (), "fa": (A,), "fb": (B,), "fc": (("take", 1, "c"),)}
        self.has(house_of({"u": ("fa", 9, ("u",)), "v": ("fb", 1, ())}, **bodies), line(a=1, b=1))
        self.has(house_of({"u": ("fa", 9, ("v",)), "v": ("fb", 1, ())}, **bodies), line(a=9, b=1))
        self.has(house_of({"u": ("fa", 9, ("v",)), "v": ("fb", 4, ("u",))}, **bodies), line(a=9), line(b=4))
        self.has(house_of({"u": ("fa", 9, ("u", "v")), "v": ("fb", 4, ("u", "v"))}, **bodies), line(a=1), line(b=1))
        self.has(house_of({"u": ("fa", 2, ("v",)), "v": ("fb", 2, ("w",)), "w": ("fc", 2, ("u",))}, **bodies),
                 line(a=2, c=2), line(a=2, b=2), line(b=2, c=2))
        self.has(house_of({"u": ("fa", 3, ()), "v": ("fb", 4, ())}, shut=("u", "v"), **bodies), ())

    def test_a_less_deep_place_with_all_open(self):
        bodies = {"main": (A, ("either", (shut("u"), ("take", 8, "a")), ())), "tick": (("either", (("take", 5, "b"),), (shut("u"), ("take", 6, "b"))),)}
        self.has(house_of({"u": ("tick", 1, ())}, **bodies), line(a=9), line(a=1, b=6))
        self.has(house_of({"u": ("tick", 3, ())}, **bodies), line(a=9), line(a=1, b=16))

    def test_what_a_handler_may_do_when_more_is_shut(self):
        # u's handler shuts v ahead of its deep place; when v is shut anyway, all its segments can be there.
        bodies = {"main": (("either", (), (shut("v"),)),), "hu": (A, shut("v"), ("take", 9, "a")), "hv": (("take", 4, "b"),)}
        self.has(house_of({"u": ("hu", 3, ()), "v": ("hv", 2, ())}, **bodies), line(a=30, b=8))

    def test_handlers_of_one_function(self):
        bodies = {"main": (B,), "tick": (A, shut("v"))}
        self.has(house_of({"u": ("tick", 2, ()), "v": ("tick", 2, ()), "w": ("tick", 2, ())}, **bodies), line(a=6, b=1))
        self.has(house_of({"u": ("main", 2, ()), "v": ("main", 3, ("u",))}, **bodies), line(b=6))

    def test_big_numbers(self):
        self.has(house_of({"u": ("tick", MOST, ()), "v": ("tock", MOST, ())}, main=(A,), tick=(("take", BIG, "b"),), tock=(("loop", MOST, (("take", BIG, "c"),)),)),
                 line(a=1, b=BIG * MOST, c=BIG * MOST * MOST))

    def test_five_handlers(self):
        names = "stuvw"
        bodies = {"main": (), **{f"h{name}": (("take", 1, f"f{name}"),) for name in names}}
        handlers = {name: (f"h{name}", 2, (names[(at + 1) % 5],)) for at, name in enumerate(names)}
        house = house_of(handlers, **bodies)
        found, whole = moments_of(house, 10 ** 5)
        self.assertTrue(whole)
        self.has(house, *corners(list({one for one, _ in found})))

    def test_names_of_arguments(self):
        house = house_of({"u": ("tick", 1, ())}, main=(A,), tick=(B,))
        self.gives((line(a=1, b=1),), lines_of, house=house)
        self.gives((9, line(a=1, b=1)), greatest_depth, house=house, sizes={"a": 4, "b": 5, "z": None})
        self.gives(chain_to(house, line(a=1, b=1)), chain_to, house=house, line=line(a=1, b=1))
        self.gives(False, is_endless, house=house)
        self.gives(None, house_ring, house=house)


class EndlessHouses(Case):
    def ends_not(self, house, interrupt):
        self.gives(True, is_endless, house)
        found = house_ring(house)
        self.assertEqual((len(found), found[0]), (2, interrupt))
        function = house.task if interrupt is None else house.handler(interrupt)[0]
        self.is_same(is_ring(house.program, function, (), found[1]), True)
        for action in (lines_of, lambda one: greatest_depth(one, {frame: 1 for frame in one.program.frames()}), lambda one: chain_to(one, None)):
            with self.assertRaises(Endless) as caught:
                action(house)
            ring = caught.exception.ring
            self.is_same(is_ring(house.program, house.task if ring[0] is None else house.handler(ring[0])[0], (), ring[1]), True)

    def test_by_the_task(self):
        self.ends_not(house_of(None, main=(("loop", None, (A,)),)), None)
        self.ends_not(house_of({"u": ("tick", 1, ())}, main=(A, call("main")), tick=()), None)

    def test_by_a_handler(self):
        bodies = {"main": (), "tick": (), "deep": (A, call("deep"))}
        self.ends_not(house_of({"u": ("tick", 1, ()), "v": ("deep", 1, ())}, **bodies), "v")
        self.ends_not(house_of({"u": ("deep", 1, ("u",))}, **bodies), "u")
        self.ends_not(house_of({"u": ("deep", 1, ()), "v": ("tick", 1, ("u",))}, shut=("v",), **bodies), "u")

    def test_a_handler_that_can_never_come(self):
        bodies = {"main": (B,), "tick": (("take", 2, "b"),), "deep": (A, call("deep"))}
        house = house_of({"u": ("deep", 1, ()), "v": ("tick", 2, ())}, shut=("u",), **bodies)
        self.gives(False, is_endless, house)
        self.gives((line(b=5),), lines_of, house)
        self.ends_not(house_of({"u": ("deep", 1, ())}, **bodies), "u")

    def test_a_task_that_shuts_at_once_comes_too_late(self):
        self.ends_not(house_of({"u": ("deep", 1, ())}, main=(shut("u"),), deep=(("loop", None, (A,)),)), "u")


class Depths(Case):
    HOUSE = house_of({"u": ("tick", 1, ())}, main=(("either", (("take", 3, "a"),), (shut("u"), ("take", 2, "b"))),), tick=(("take", 1, "b"), ("take", 1, "c")))

    def test_the_least_line_of_several(self):
        house = house_of(None, main=(("either", (("take", 2, "b"),), (("either", (("take", 2, "a"),), (("take", 1, "c"),)),)),))
        self.gives((2, line(a=2)), greatest_depth, house, {"a": 1, "b": 1, "c": 1})
        self.gives((2, line(a=2)), greatest_depth, house, {"a": 1, "b": 1, "c": 2})
        self.gives((6, line(b=2)), greatest_depth, house, {"a": 1, "b": 3, "c": 6})
        self.gives((7, line(c=1)), greatest_depth, house, {"a": 1, "b": 3, "c": 7})

    def test_wrong_sizes(self):
        for value in ODD_VALUES:
            if not isinstance(value, dict):
                self.assert_sizes(None, value)
            if not (type(value) is int and value > 0):
                self.assert_sizes("b", {"a": 1, "b": value, "c": None})
        self.assert_sizes("a", {})
        self.assert_sizes("c", {"a": 1, "b": 1})
        self.assert_sizes("a", {"a": 0, "b": 0, "c": 0})
        self.gives(5, lambda: greatest_depth(self.HOUSE, {"a": 1, "b": 1, "c": 1, "d": 0})[0])

    def assert_sizes(self, name, sizes):
        for house in (self.HOUSE, house_of({"u": ("deep", 1, ())}, main=(("take", 1, "b"), ("take", 1, "c")), deep=(("loop", None, (A,)),))):
            with self.assertRaises(InvalidSizes) as caught:
                greatest_depth(house, sizes)
            self.is_same(caught.exception.name, name)

    def test_lines_that_are_none_of_the_house(self):
        lines = lines_of(self.HOUSE)
        self.is_same(lines, (line(a=3, b=1, c=1), line(b=2)))
        for value in (*ODD_VALUES, line(a=3), line(a=3, b=1), [("a", 3), ("b", 1), ("c", 1)], line(z=1), (("a", True), ("b", 1), ("c", 1))):
            if value in lines and isinstance(value, tuple):
                continue
            with self.assertRaises(UnknownLine) as caught:
                chain_to(self.HOUSE, value)
            self.assertIs(caught.exception.value, value)


class Numbers(Case):
    def test_forms(self):
        plain = {letter: () for letter in "abcdefghi"}
        nine = tuple(call(letter) for letter in "abcdefghi")
        one = house_of({"u": ("nx", 1, ()), "v": ("nw", 1, ())}, main=(), nw=nine, nx=(*nine, A), **plain)
        two = house_of({"u": ("nx", 1, ())}, main=nine, nx=(*nine, A), **plain)
        three = house_of({"u": ("nx", 1, ())}, shut=("u",), main=(), nx=nine, **plain)
        for house, name in ((one, "nx"), (two, "main"), (three, "nx")):
            for action in (is_endless, house_ring, lines_of, lambda house: greatest_depth(house, {"a": 1}), lambda house: chain_to(house, None)):
                self.fails(TooMany, {"name": name}, action, house)

    def test_lines(self):
        frames = ("either", (("either", (("take", 5, "w"),), (("take", 5, "x"),)),), (("either", (("take", 5, "y"),), (("take", 5, "z"),)),))
        bodies = {"main": (frames,), "tick": curve(15)}
        house = house_of({"u": ("tick", 3, ())}, **bodies)
        self.is_same(len(lines_of(house)), 60)
        for one in lines_of(house)[::7]:
            self.is_same(judged_house_chain(house, chain_to(house, one))[0], one)
        more = house_of({"u": ("tick", 3, ())}, **{**bodies, "main": (("either", (frames,), (shut("u"), ("take", 10 ** 6, "a"))),)})
        for action in (lines_of, lambda house: greatest_depth(house, {frame: 1 for frame in "abwxyz"}), lambda house: chain_to(house, None)):
            self.fails(TooMany, {"name": None}, action, more)
        self.gives(False, is_endless, more)
        self.gives(None, house_ring, more)


    def test_many_sums_and_few_lines(self):
        house = house_of({"u": ("hu", 1, ()), "v": ("hv", 7, ())}, main=curve(20), hu=curve(19), hv=curve(18))
        lines = lines_of(house)
        self.is_same(len(lines), 55)
        for a in range(1, 40, 3):
            wanted = [max(a * one + 20 * other for one, other in points_of_curve(many)) for many in (20, 19, 18)]
            self.is_same(greatest_depth(house, {"a": a, "b": 20})[0], wanted[0] + wanted[1] + 7 * wanted[2])
        for one in lines[::9]:
            self.is_same(judged_house_chain(house, chain_to(house, one))[0], one)

    def test_lines_that_multiply(self):
        for times in (1, 10 ** 6):
            house = house_of({"u": ("hu", 1, ()), "v": ("hv", times, ("u",))}, main=curve(15), hu=curve(15, "wx"), hv=curve(15, "yz"))
            for _ in range(2):
                self.fails(TooMany, {"name": None}, lines_of, house)
                self.fails(TooMany, {"name": None}, chain_to, house, ())
        house = house_of({"u": ("hu", 1, ()), "v": ("hv", 1, ())}, shut=("v",), main=curve(9), hu=curve(6, "wx"), hv=curve(15, "yz"))
        self.is_same(len(lines_of(house)), 54)


class Performed(Case):
    """Lines are compared with those of all moments of a machine."""

    def test_some_houses(self):
        chance = random.Random(41)
        whole_ones = endless = 0
        for _ in range(220):
            rows = some_functions(chance, 4, recursive=chance.random() < .3, loops=(1, 2), kinds=((), (), (), ("x",)),
                                  words=["take", "take", "shut", "call", "either", "room", "loop"])
            program = Program(rows)
            plain = [name for name in program.names() if not program.params(name)]
            if not plain:
                continue
            interrupts = "uvw"[:chance.randint(0, 3)]
            some = lambda: tuple(sorted(name for name in interrupts if chance.random() < .25))
            handlers = {name: (chance.choice(plain), chance.randint(1, 2), some()) for name in interrupts}
            house = House(program, chance.choice(plain), handlers, shut=some())
            if is_endless(house):
                interrupt, ring = house_ring(house)
                self.assertTrue(interrupt is None or interrupt in house and interrupt not in house.shut)
                self.assertTrue(is_ring(program, house.task if interrupt is None else handlers[interrupt][0], (), ring))
                endless += 1
                continue
            lines = lines_of(house)
            for one in lines:
                self.is_same(judged_house_chain(house, chain_to(house, one))[0], one, (rows, handlers))
            found, whole = moments_of(house, 400)
            reached = list({one for one, _ in found})
            if whole:
                whole_ones += 1
                self.is_same(lines, corners(reached), (rows, house.task, handlers, house.shut))
            for one in reached:
                self.assertTrue(is_covered(one, list(lines)), (rows, handlers, one))
            sizes = {frame: chance.randint(1, 9) for frame in program.frames()}
            depth, one = greatest_depth(house, sizes)
            self.is_same(depth, max(line_size(other, sizes) for other in lines))
            self.is_same(one, min(other for other in lines if line_size(other, sizes) == depth))
        self.assertGreater(whole_ones, 60)
        self.assertGreater(endless, 3)

    def test_sums_of_segments(self):
        house = house_of({"u": ("tick", 7, ())}, main=(A,), tick=(("either", (A,), (B,)),))
        self.gives((line_sum([line(a=1), line_times(line(a=1), 7)]), line(a=1, b=7)), lambda: tuple(sorted(lines_of(house), reverse=True)))


if __name__ == "__main__":
    unittest.main()
