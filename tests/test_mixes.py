import random

from nestdeep.errors import InvalidLine, InvalidSizes
from nestdeep.mixes import corners, greatest, is_covered, parting_sizes, weights
from tests.helpers import BIG, Case, ODD_VALUES
from tests.papers import right_parting, right_weights, size
from tests.test_lines import NO_LINES

TWO_A, TWO_B, BOTH = (("a", 2),), (("b", 2),), (("a", 1), ("b", 1))
COVERED = [
    ((), [()]), ((), [TWO_A]), ((), [(), TWO_A]), (TWO_A, [TWO_A]), (BOTH, [TWO_A, TWO_B]), (BOTH, [BOTH, BOTH]),
    ((("a", 1),), [TWO_A]), ((("a", 1),), [BOTH]), (BOTH, [TWO_B, (), TWO_A]), ((("a", 1),), [(), TWO_A]),
    ((("a", 1), ("b", 1), ("c", 1)), [(("a", 3),), (("b", 3),), (("c", 3),)]),
    ((("a", BIG), ("b", BIG)), [(("a", 2 * BIG),), (("b", 2 * BIG),)]),
    ((("a", 1), ("b", 10 ** 58)), [(("a", 10),), (("b", 10 ** 59),), (("a", 2), ("b", 2 * 10 ** 58))]),
    ((("a", 2),), [(("a", 1),), (("a", 3), ("c", 5))]),
    ((("a", 2), ("b", 1)), [(("a", 3),), (("b", 3),)]),
]
APART = [
    ((), []), (TWO_A, []), (TWO_A, [()]), ((("a", 1),), [()]), ((("a", 1),), [(("b", BIG),)]), ((("a", 3),), [TWO_A]),
    ((("a", 1), ("b", 2)), [TWO_A, TWO_B]), ((("a", 2), ("b", 1)), [TWO_A, TWO_B]), (BOTH, [TWO_A]),
    ((("a", BIG), ("b", BIG + 1)), [(("a", 2 * BIG),), (("b", 2 * BIG),)]),
    ((("a", 1), ("b", 1), ("c", 1)), [(("a", 3),), (("b", 3),), (("c", 2),)]),
    ((("a", 10 ** 59), ("b", 1)), [(("a", 10 ** 59),), (("b", 10 ** 59),)]),
    ((("a", 1), ("b", 1)), [(("a", 2), ("c", 7)), (("b", 1), ("c", 7))]),
    ((("a", 2), ("b", 1)), [(("a", 3),), (("b", 2),)]),
]


def random_line(source, frames, most):
    return tuple((frame, source.randint(1, most)) for frame in frames if source.random() < 0.6)


class Covered(Case):
    def test_covered(self):
        for line, lines in COVERED:
            for rows in (lines, lines[::-1], tuple(lines), lines + [()]):
                self.gives(True, is_covered, line, rows)
                self.assertIsNone(parting_sizes(line, rows))
                paper = weights(line, rows)
                self.assertTrue(right_weights(line, rows, paper), (line, rows, paper))
                self.is_same(weights(line, rows), paper)

    def test_apart(self):
        for line, lines in APART:
            for rows in (lines, lines[::-1], tuple(lines)):
                self.gives(False, is_covered, line, rows)
                self.gives(None, weights, line, rows)
                paper = parting_sizes(line, rows)
                self.assertTrue(right_parting(line, rows, paper), (line, rows, paper))
                self.assertEqual(parting_sizes(line, rows), paper)
                self.assertIsNot(parting_sizes(line, rows), paper)

    def test_no_line_covers_alone(self):
        self.is_same(weights(BOTH, [TWO_A, TWO_B]), ((1, 2), (1, 2)))
        self.is_same(weights(BOTH, [TWO_A, (), TWO_B]), ((1, 2), (0, 1), (1, 2)))
        self.is_same(weights((("a", 2), ("b", 1)), [(("a", 3),), (("b", 3),)]), ((2, 3), (1, 3)))
        self.is_same(weights((), [()]), ((1, 1),))
        self.is_same(weights(TWO_A, [TWO_A]), ((1, 1),))

    def test_by_names(self):
        self.is_same(is_covered(line=TWO_A, lines=[TWO_A]), True)
        self.is_same(weights(line=TWO_A, lines=[TWO_A]), ((1, 1),))
        self.is_same(parting_sizes(line=TWO_A, lines=[TWO_A]), None)

    def test_random(self):
        source = random.Random(11)
        seen = {True: 0, False: 0}
        for _ in range(500):
            frames = "abcde"[:source.randint(1, 5)]
            most = source.choice([2, 5, 30, 10 ** 30])
            lines = [random_line(source, frames, most) for _ in range(source.randint(1, 8))]
            line = random_line(source, frames, max(1, most * 2 // 3))
            covered = is_covered(line, lines)
            seen[covered] += 1
            paper = weights(line, lines) if covered else parting_sizes(line, lines)
            self.assertTrue((right_weights if covered else right_parting)(line, lines, paper), (line, lines))
            self.assertIsNone(parting_sizes(line, lines) if covered else weights(line, lines))
        self.assertGreater(min(seen.values()), 100)

    def test_many_lines(self):
        source = random.Random(3)
        lines = [tuple((frame, source.randint(1, 10 ** 59)) for frame in "abcdefghij") for _ in range(80)]
        for line in (tuple((frame, 7 * 10 ** 58) for frame in "abcdefghij"), tuple((frame, 10 ** 58) for frame in "abcdefghij")):
            covered = is_covered(line, lines)
            paper = weights(line, lines) if covered else parting_sizes(line, lines)
            self.assertTrue((right_weights if covered else right_parting)(line, lines, paper))

    def test_many_ties(self):
        for frames in ("abcdef", "abcdefghij"):
            lines = [tuple((frame, 1) for frame in frames if frame != other) for other in frames]
            for count in (1, 2):
                line = tuple((frame, count) for frame in frames)
                self.gives(False, is_covered, line, lines)
                self.assertTrue(right_parting(line, lines, parting_sizes(line, lines)))
            doubled = [tuple((frame, 2) for frame in frames if frame != other) for other in frames]
            line = tuple((frame, 1) for frame in frames)
            self.assertTrue(right_weights(line, doubled, weights(line, doubled)))

    def test_wrong_lines(self):
        for value in NO_LINES:
            for action in (is_covered, weights, parting_sizes):
                self.fails(InvalidLine, {"value": value}, action, value, [()])
                self.fails(InvalidLine, {"value": value}, action, value, [None])
                self.fails(InvalidLine, {"value": value}, action, (), [TWO_A, value, 0])
                self.fails(InvalidLine, {"value": value}, action, (), (value,))


class Corners(Case):
    def test_corners(self):
        two_a_b = (("a", 2), ("b", 1))
        for wanted, lines in [
            ((TWO_A, TWO_B), [TWO_A, TWO_B, BOTH]), ((two_a_b, TWO_B), [TWO_A, TWO_B, two_a_b]), ((), []), (((),), [()]),
            (((),), [(), ()]), ((TWO_A,), [(), TWO_A]), ((TWO_A,), [TWO_A, TWO_A]), ((BOTH,), [BOTH, (("a", 1),), (("b", 1),)]),
            (((("a", 1), ("b", 2)), TWO_A), [TWO_A, (("a", 1), ("b", 2)), BOTH]),
            ((TWO_A, TWO_B), [BOTH, BOTH, TWO_B, TWO_A, TWO_B, ()]),
            (((("a", 2 * BIG),), (("b", 2 * BIG),)), [(("a", BIG), ("b", BIG)), (("a", 2 * BIG),), (("b", 2 * BIG),)]),
        ]:
            self.gives(tuple(sorted(wanted)), corners, lines)
            self.gives(tuple(sorted(wanted)), corners, lines[::-1])
            self.gives(tuple(sorted(wanted)), corners, tuple(lines * 2))
        self.is_same(corners(lines=[TWO_A]), (TWO_A,))

    def test_the_example(self):
        self.is_same(corners([TWO_A, BOTH, TWO_B]), ((("a", 2),), (("b", 2),)))
        self.is_same(greatest([TWO_A, TWO_B, BOTH], {"a": 3, "b": 3}), (6, (("a", 1), ("b", 1))))

    def test_random(self):
        source = random.Random(4)
        for _ in range(60):
            lines = [random_line(source, "abc", 6) for _ in range(source.randint(1, 14))]
            found = corners(lines)
            self.is_same(found, tuple(line for line in sorted(set(lines))
                                      if not is_covered(line, [other for other in lines if other != line])))
            for line in lines:
                self.assertTrue(is_covered(line, found))
            source.shuffle(lines)
            self.is_same(corners(lines), found)
            for _ in range(5):
                sizes = {frame: source.randint(1, 9) for frame in "abc"}
                self.assertEqual(max(size(line, sizes) for line in lines), max(size(line, sizes) for line in found))

    def test_wrong_lines(self):
        for value in NO_LINES:
            self.fails(InvalidLine, {"value": value}, corners, [TWO_A, value, None])
            self.fails(InvalidLine, {"value": value}, corners, (value,))


class Greatest(Case):
    def test_greatest(self):
        self.gives(None, greatest, [], {})
        self.gives(None, greatest, (), {"a": 0})
        self.gives((0, ()), greatest, [()], {})
        self.gives((6, TWO_A), greatest, [TWO_B, TWO_A, BOTH], {"a": 3, "b": 1})
        self.gives((2, BOTH), greatest, [TWO_B, TWO_A, BOTH], {"a": 1, "b": 1})
        self.gives((2, TWO_A), greatest, (TWO_B, TWO_A), {"a": 1, "b": 1, "c": None})
        self.gives((2 * BIG, TWO_B), greatest, [TWO_A, TWO_B, ()], {"a": 1, "b": BIG})
        self.gives((4, (("a", 1), ("b", 3))), greatest, [(("a", 4),), (("a", 1), ("b", 3)), (("a", 2),)], {"b": 1, "a": 1})
        self.gives((4, (("a", 4),)), greatest, [(("b", 2),), (("a", 4),)], {"b": 2, "a": 1})
        self.is_same(greatest(lines=[TWO_A], sizes={"a": 5}), (10, TWO_A))

    def test_wrong_sizes(self):
        lines = [(("c", 1),), (("a", 1), ("d", 1)), (("b", 3),)]
        for value in [value for value in ODD_VALUES if not isinstance(value, dict)]:
            for rows in (lines, [], [()]):
                self.fails(InvalidSizes, {"name": None}, greatest, rows, value)
        for wrong in (0, -1, True, False, None, "1", (1,), []):
            self.fails(InvalidSizes, {"name": "a"}, greatest, lines, {"d": wrong, "a": wrong})
            self.fails(InvalidSizes, {"name": "b"}, greatest, lines, {"a": 1, "b": wrong, "c": 1})
            self.fails(InvalidSizes, {"name": "d"}, greatest, lines, {"d": wrong, "a": 1, "b": 1, "c": 1})
        self.fails(InvalidSizes, {"name": "a"}, greatest, lines, {})
        self.fails(InvalidSizes, {"name": "c"}, greatest, lines, {"a": 1, "b": 1})

    def test_wrong_lines(self):
        for value in NO_LINES:
            self.fails(InvalidLine, {"value": value}, greatest, [(), value, None], None)
            self.fails(InvalidLine, {"value": value}, greatest, (value,), {})
