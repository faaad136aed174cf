"""Houses with about sixty lines: just sixty are told, and a few more are too many."""

import itertools
import random
import unittest

from nestdeep.bench import Bench
from nestdeep.errors import TooMany
from nestdeep.house import House
from nestdeep.lines import line_size, line_sum, line_times
from nestdeep.mixes import corners, parting_sizes, weights
from nestdeep.nestpapers import keeps
from nestdeep.nests import greatest_depth, is_endless, lines_of
from nestdeep.plateaus import chain_to
from nestdeep.programs import Program
from tests.helpers import BIG, Case
from tests.papers import right_parting, right_weights
from tests.programs import judged_house_chain, moments_of

JUST_SIXTY = [(4, 15), (5, 12), (6, 10), (10, 6), (15, 4)]
A_FEW_MORE = [(7, 9), (8, 8), (6, 11), (13, 5), (16, 4), (16, 16)]


def line(**counts):
    return tuple(sorted((frame, count) for frame, count in counts.items() if count))


def takes(one):
    return tuple(("take", count, frame) for frame, count in one)


def either_of(ways):
    """A body with these ways out, put together by eithers of halves."""
    if len(ways) == 1:
        return ways[0]
    half = len(ways) // 2
    return (("either", either_of(ways[:half]), either_of(ways[half:])),)


def body_of(lines):
    return either_of([takes(one) for one in lines])


def bow(x, y, many):
    """Lines that lie close to one another, none of them covered by others."""
    return [line(**{x: at + 1, y: 400 - at * at}) for at in range(many)]


def bow_with_chords(x, y, many):
    """A bow, and lines on the straight lines between two that stand side by side; together at most sixteen."""
    twice = [line_times(one, 2) for one in bow(x, y, many)]
    between = [line_sum(pair) for pair in zip(bow(x, y, many), bow(x, y, many)[1:])]
    return twice, twice + between[:16 - many]


def straight(x, y, many):
    """Lines on one straight line; only the first and the last are not covered by others."""
    return [line(**{x: at, y: many - 1 - at}) for at in range(many)]


def sums(*lists):
    return [line_sum(list(parts)) for parts in itertools.product(*lists)]


def house_of(handlers, shut=(), **bodies):
    return House(Program([(name, (), body) for name, body in {"main": (), **bodies}.items()]), "main", handlers, shut=shut)


def two(lines, others, main=(), times=(1, 1), shuts=((), ())):
    """A house with two handlers that take these lines."""
    handlers = {"u": ("fa", times[0], shuts[0]), "v": ("fb", times[1], shuts[1])}
    return house_of(handlers, main=main, fa=body_of(lines), fb=body_of(others))


class ManyCase(Case):
    def has(self, house, lines):
        """The house has just these lines."""
        self.is_same(lines_of(house), tuple(sorted(lines)))
        for one in sorted(lines)[::11]:
            self.is_same(judged_house_chain(house, chain_to(house, one))[0], one)
        chance = random.Random(len(lines))
        for most in (1, 2, 9, 10 ** 6, BIG):
            sizes = {frame: chance.randint(1, most) for frame in house.program.frames()}
            depth = max(line_size(one, sizes) for one in lines)
            deepest = min(one for one in lines if line_size(one, sizes) == depth)
            self.is_same(greatest_depth(house, sizes), (depth, deepest))
            self.assertIs(keeps(house, sizes, depth)[0], True)
            self.assertIs(keeps(house, sizes, depth - 1)[0], False)

    def has_too_many(self, house):
        sizes = {frame: 1 for frame in house.program.frames()}
        for _ in range(2):
            self.fails(TooMany, {"name": None}, lines_of, house)
            self.fails(TooMany, {"name": None}, greatest_depth, house, sizes)
            self.fails(TooMany, {"name": None}, chain_to, house, ())
        self.gives(False, is_endless, house)

    def are_corners(self, lines, reached):
        """Just these lines cover all that is reached, by papers that are judged by themselves."""
        for one in lines:
            others = [other for other in reached if other != one]
            self.assertIn(one, reached)
            self.assertTrue(not others or right_parting(one, others, parting_sizes(one, others)), one)
        for one in reached:
            self.assertTrue(right_weights(one, list(lines), weights(one, list(lines))), one)


class Close(ManyCase):
    """Lines that lie close to one another."""

    def test_just_sixty(self):
        for m, n in JUST_SIXTY:
            self.has(two(bow("a", "b", m), bow("c", "d", n)), sums(bow("a", "b", m), bow("c", "d", n)))

    def test_a_few_more(self):
        for m, n in A_FEW_MORE:
            self.has_too_many(two(bow("a", "b", m), bow("c", "d", n)))

    def test_one_more(self):
        a, c = bow("a", "b", 5), bow("c", "d", 12)
        big = (("shut", ("u", "v")), ("take", 10 ** 6, "e"))
        self.has_too_many(two(a, c, main=(("either", (), big),)))
        small = (("shut", ("u", "v")), ("take", 400, "b"), ("take", 400, "d"))
        self.has(two(a, c, main=(("either", (), small),)), sums(a, c))

    def test_a_frame_that_both_have(self):
        for m, n in JUST_SIXTY[:3]:
            self.has(two(bow("a", "c", m), bow("b", "c", n)), sums(bow("a", "c", m), bow("b", "c", n)))
        for m, n in A_FEW_MORE:
            self.has_too_many(two(bow("a", "c", m), bow("b", "c", n)))

    def test_the_same_frames(self):
        lines = [one for one in sums(bow("a", "b", 15), bow("a", "b", 15))]
        self.has(two(bow("a", "b", 15), bow("a", "b", 15)), corners(lines))
        self.are_corners(corners(lines), sorted(set(lines)))
        self.is_same(len(corners(lines)), 15)

    def test_many_segments(self):
        a, c = bow("a", "b", 6), bow("c", "d", 10)
        for one, other in ((2, 1), (7, 3), (10 ** 12, 10 ** 11)):
            lines = sums([line_times(part, one) for part in a], [line_times(part, other) for part in c])
            self.has(two(a, c, times=(one, other)), lines)
        self.has_too_many(two(a, bow("c", "d", 11), times=(10 ** 12, 10 ** 11)))

    def test_handlers_that_shut_each_other(self):
        a, c = bow("a", "b", 5), bow("c", "d", 12)
        for shuts in ((("v",), ()), ((), ("u",)), (("u",), ("v",)), (("u",), ()), (("u", "v"), ())):
            self.has(two(a, c, shuts=shuts), sums(a, c))
        self.has(two(a, c, shuts=(("v",), ("u",))), a + c)

    def test_lines_of_either_handler(self):
        a, c = bow("a", "b", 8), bow("c", "d", 12)
        for many in (3, 4):
            house = two(a, c, main=body_of(bow("e", "f", many)), shuts=(("v",), ("u",)))
            if many == 3:
                self.has(house, sums(bow("e", "f", 3), a + c))
            else:
                self.has_too_many(house)

    def test_three_bows(self):
        self.has(two(bow("a", "b", 4), bow("c", "d", 3), main=body_of(bow("e", "f", 5))), sums(bow("a", "b", 4), bow("c", "d", 3), bow("e", "f", 5)))
        self.has_too_many(two(bow("a", "b", 4), bow("c", "d", 4), main=body_of(bow("e", "f", 4))))
        self.has_too_many(two(bow("a", "b", 16), bow("c", "d", 16), main=body_of(bow("e", "f", 16))))

    def test_frames_of_which_all_have_as_much(self):
        a, c = bow("a", "b", 5), bow("c", "d", 12)
        more = line(e=7, f=BIG)
        self.has(two(a, sums(c, [more]), main=takes(more)), sums(a, c, [line_times(more, 2)]))


class Edges(ManyCase):
    """A task and three handlers, each with a chain of edges; their sums have the chain of all these edges."""

    def chain(self, edges):
        return [line(a=at + 1, b=1 + sum(sorted(edges)[at:])) for at in range(len(edges) + 1)]

    def house(self, *edges):
        main, *others = [body_of(self.chain(some)) for some in edges]
        return house_of({name: (f"f{name}", 1, ()) for name in "uvw"}, main=main, **dict(zip(("fu", "fv", "fw"), others)))

    def test_fifty_nine_and_sixty_edges(self):
        # With some of these numbers all sixty lines are seen ahead, when it is asked whether they are too many.
        for seed in (1, 2, 3, 138, 503, 1227):
            edges = list(range(1, 60))
            random.Random(seed).shuffle(edges)
            parts = edges[:14], edges[14:29], edges[29:44], edges[44:]
            whole = [line(a=at + 4, b=4 + sum(range(at + 1, 60))) for at in range(60)]
            self.has(self.house(*parts), whole)
            self.has_too_many(self.house([*parts[0], 60], *parts[1:]))


class Shutting(ManyCase):
    """Handlers that shut many sets of interrupts."""

    def test_five_handlers_that_shut_any_set(self):
        # Each of the five can shut each set in its segment: more than 150 ways to go on above the task.
        names = "uvwxy"
        for seed in range(2):
            chance = random.Random(seed)
            bodies = {}
            for name in names:
                ways = [(("shut", (other,)), ("take", chance.randint(1, 40), chance.choice("ab"))) for other in names]
                last = ("either", (*ways[4], ("stop",)), (("stop",),))
                bodies[f"h{name}"] = (*[("either", way, ()) for way in ways[:4]], last)
            house = house_of({name: (f"h{name}", 1, ()) for name in names}, **bodies)
            self.has(house, lines_of(house))
            self.is_same(len(lines_of(house)), (4, 6)[seed])


class Straight(ManyCase):
    """Lines on one straight line."""

    def test_ends(self):
        ends = [[line(a=11), line(b=11)], [line(c=14), line(d=14)]]
        self.has(two(straight("a", "b", 12), straight("c", "d", 15)), sums(*ends))
        self.has(two(straight("a", "b", 12), straight("b", "c", 15)), [line(a=11, b=14), line(a=11, c=14), line(b=25), line(b=11, c=14)])
        self.has(two(straight("a", "b", 12), straight("a", "b", 15)), [line(a=25), line(b=25)])

    def test_chords(self):
        for m, n in ((6, 10), (10, 6)):
            (a, with_a), (c, with_c) = bow_with_chords("a", "b", m), bow_with_chords("c", "d", n)
            self.has(two(with_a, with_c), sums(a, c))
            (a, with_a), (c, with_c) = bow_with_chords("a", "c", m), bow_with_chords("b", "c", n)
            self.has(two(with_a, with_c), sums(a, c))
        for x, y in ("bc", "cd"):
            self.has_too_many(two(bow_with_chords("a", "b", 8)[1], bow_with_chords(x, y, 8)[1]))
            self.has_too_many(two(bow_with_chords("a", "b", 7)[1], bow_with_chords(x, y, 9)[1]))

    def test_a_line_a_little_above_a_chord(self):
        a, c = bow_with_chords("a", "b", 5)[0], bow("c", "d", 10)
        between = line(a=3, b=799)
        self.has(two([*a, between], c), sums(a, c))
        self.has(two([*a, line(a=3, b=800)], c), sums([*[one for one in a if one != line(a=2, b=800)], line(a=3, b=800)], c))
        self.has(two([*a, line(a=5, b=796)], c), sums([*a, line(a=5, b=796)], c))
        self.has_too_many(two([*a, line(a=5, b=796)], bow("c", "d", 11)))


class Mixed(ManyCase):
    """Lines that several mixes cover."""

    CUBE = [line(a=x, b=y, c=4000 - x * x - y * y) for x in (1, 2, 3) for y in (1, 2, 3, 4)]

    def test_handlers_of_one_function(self):
        # Each sum of two different lines is covered by a mix of their doubles, and comes in two ways.
        for times in (1, 3):
            handlers = {"u": ("fa", times, ()), "v": ("fa", 1, ())}
            house = house_of(handlers, main=body_of(bow("d", "e", 5)), fa=body_of(self.CUBE))
            self.has(house, sums([line_times(one, times + 1) for one in self.CUBE], bow("d", "e", 5)))
            self.has_too_many(house_of(handlers, main=body_of(bow("d", "e", 6)), fa=body_of(self.CUBE)))

    def test_middles(self):
        # 2 a + 2 b lies in the middle of a square in two ways, and so do sums with it.
        square = [line(a=4, c=4), line(a=4, d=4), line(b=4, c=4), line(b=4, d=4)]
        middle = line(a=2, b=2, c=2, d=2)
        self.has(two([*square, middle, *sums([line(a=2, b=2)], [line(c=4), line(d=4)])], bow("e", "f", 15)), sums(square, bow("e", "f", 15)))
        self.has_too_many(two([*square, middle], bow("e", "f", 16)))
        self.has_too_many(two([*square, line(a=2, b=2, c=2, d=3)], bow("e", "f", 13)))
        self.has(two([*square, line(a=2, b=2, c=2, d=3)], bow("e", "f", 12)), sums([*square, line(a=2, b=2, c=2, d=3)], bow("e", "f", 12)))

    def test_below_many(self):
        a = bow("a", "b", 6)
        below = [line(a=at, b=300 + at) for at in range(1, 7)]
        self.has(two([*a, *below], bow("c", "d", 10)), sums(a, bow("c", "d", 10)))


class Compared(ManyCase):
    """Lines are compared with all moments of a machine, by papers."""

    def test_some_houses(self):
        chance = random.Random(611)
        many = whole_ones = 0
        for number in range(90):
            frames = "abcdef"[:chance.randint(3, 6)]
            interrupts, times = ("uvw", 2) if number % 3 == 0 else ("uv", 1)
            bodies = {f"h{name}": self.some_ways(chance, frames, interrupts, chance.randint(2, 5 - times)) for name in interrupts}
            handlers = {name: (f"h{name}", chance.randint(1, times), tuple(sorted(chance.sample(interrupts, chance.choice((0, 0, 1)))))) for name in interrupts}
            house = house_of(handlers, main=self.some_ways(chance, frames, interrupts, 1), **bodies)
            found, whole = moments_of(house, 2500 if times == 1 else 300)
            lines = lines_of(house)
            reached = sorted({one for one, _ in found})
            for one in reached:
                self.assertTrue(right_weights(one, list(lines), weights(one, list(lines))), (handlers, bodies, one))
            for one in lines:
                self.is_same(judged_house_chain(house, chain_to(house, one))[0], one)
            if whole:
                whole_ones += 1
                self.are_corners(lines, reached)
                many += len(lines) > 7
        self.assertGreater(whole_ones, 40)
        self.assertGreater(many, 6)

    def some_ways(self, chance, frames, interrupts, many):
        ways = []
        for _ in range(many):
            way = [("take", chance.randint(1, 5), frame) for frame in chance.sample(frames, chance.randint(1, 3))]
            if chance.random() < .3:
                way.insert(chance.randint(0, len(way)), ("shut", tuple(sorted(chance.sample(interrupts, chance.randint(1, 2))))))
            ways.append(tuple(way))
        return either_of(ways)


class OnABench(Case):
    def rows(self, m, n):
        return [("main", (), ()), ("fa", (), body_of(bow("a", "b", m))), ("fb", (), body_of(bow("c", "d", n)))]

    def test_entries(self):
        bench = Bench()
        bench.put(self.rows(6, 10))
        handlers = {"u": ("fa", 1, ()), "v": ("fb", 1, ())}
        self.is_same(bench.set_entry("h", House(bench.current(), "main", handlers), limit=10 ** 6), ((), (), ("h",)))
        self.is_same(bench.lines("h"), tuple(sorted(sums(bow("a", "b", 6), bow("c", "d", 10)))))
        for row in self.rows(7, 11)[1:]:
            before = bench.clone()
            self.fails(TooMany, {"name": None}, bench.put, [row])
            self.assertTrue(bench == before)
        self.is_same(len(bench.lines("h")), 60)
        self.is_same(bench.put(self.rows(4, 15))[2], ("h",))
        self.is_same(bench.lines("h"), tuple(sorted(sums(bow("a", "b", 4), bow("c", "d", 15)))))
        bench.drop_entry("h")
        bench.put(self.rows(8, 8))
        self.fails(TooMany, {"name": None}, bench.set_entry, "h", House(bench.current(), "main", handlers))
        self.is_same(bench.names(), [])
        bench.set_entry("h", House(bench.current(), "main", handlers, shut=("v",)))
        self.is_same(bench.lines("h"), tuple(sorted(bow("a", "b", 8))))


class WithEqualCounts(ManyCase):
    """Corners of lines that have some frames as often."""

    def test_random(self):
        chance = random.Random(7)
        for _ in range(120):
            same = {frame: chance.randint(0, 3) for frame in chance.sample("abcde", chance.randint(1, 5))}
            lines = []
            for _ in range(chance.randint(1, 9)):
                counts = {**{frame: chance.randint(0, 5) for frame in chance.sample("abcde", chance.randint(0, 5))}, **same}
                lines.append(line(**counts))
            self.are_corners(corners(lines), list(dict.fromkeys(lines)))


if __name__ == "__main__":
    unittest.main()
