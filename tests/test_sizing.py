import random
import unittest

from nestdeep.errors import InvalidCount, InvalidLine, InvalidSizes, NoneFits
from nestdeep.sizing import common_slack, slack
from tests.helpers import BIG, ODD_VALUES, Case
from tests.houses import size
from tests.odd import odd_keys, odd_values


def line(**counts):
    return tuple(sorted(counts.items()))


def greatest(lines, sizes):
    return max(size(one, sizes) for one in lines)


class Slack(Case):
    def has(self, wanted, common, lines, sizes, limit):
        self.assertEqual(slack(lines, sizes, limit), wanted)
        self.assertEqual(slack(tuple(lines), sizes, limit), wanted)
        self.gives(common, common_slack, lines, sizes, limit)
        self.assertIs(type(slack(lines, sizes, limit)), dict)
        for frame, more in wanted.items():
            self.is_same(greatest(lines, {**sizes, frame: sizes[frame] + more}) <= limit, True)
            self.is_same(greatest(lines, {**sizes, frame: sizes[frame] + more + 1}) <= limit, False)
        if common is not None:
            for more, kept in ((common, True), (common + 1, False)):
                self.is_same(greatest(lines, {frame: number + more for frame, number in sizes.items()}) <= limit, kept)

    def test_one_line(self):
        self.has({"a": 0}, 0, [line(a=3)], {"a": 2}, 6)
        self.has({"a": 0}, 0, [line(a=3)], {"a": 2}, 8)
        self.has({"a": 1}, 1, [line(a=3)], {"a": 2}, 9)
        self.has({"a": 2, "b": 7}, 1, [line(a=3, b=1)], {"a": 2, "b": 5}, 18)
        self.has({"a": 2, "b": 8}, 2, [line(a=3, b=1)], {"a": 2, "b": 5}, 19)

    def test_several_lines(self):
        self.has({"a": 4, "b": 1}, 1, [line(a=1), line(b=4), line(a=1, b=1)], {"a": 5, "b": 1}, 10)
        self.has({"a": 0, "b": 0, "c": 3}, 0, [line(a=1, b=1), line(c=2)], {"a": 4, "b": 4, "c": 1}, 8)
        self.has({"a": 2, "b": 6}, 2, [line(a=2), line(a=1, b=1), line(a=2)], {"a": 3, "b": 1}, 10)

    def test_a_frame_that_has_no_part_in_the_greatest_size(self):
        self.has({"a": 0, "b": 9}, 0, [line(a=1), line(b=1)], {"a": 10, "b": 1}, 10)
        self.has({"a": 5, "b": 4}, 4, [line(a=1), line(b=3)], {"a": 10, "b": 1}, 15)

    def test_lines_without_frames(self):
        self.has({}, None, [()], {}, 0)
        self.has({}, None, [()], {"a": 1}, 5)
        self.has({}, None, [(), ()], {}, BIG)
        self.has({"a": 4}, 4, [(), line(a=1)], {"a": 1}, 5)
        self.has({"a": 0}, 0, [line(a=1), ()], {"a": 5}, 5)

    def test_great_numbers(self):
        self.has({"a": BIG - 1, "b": BIG * BIG - BIG}, BIG - 2, [line(a=BIG, b=1)], {"a": 1, "b": BIG}, BIG * BIG + BIG)
        self.has({"a": 0}, 0, [line(a=BIG)], {"a": BIG}, BIG * BIG)

    def test_above_the_limit(self):
        for lines, sizes, limit in (([line(a=3)], {"a": 2}, 5), ([line(a=1), line(b=9)], {"a": 1, "b": 1}, 8), ([line(a=1)], {"a": 1}, 0), ([line(a=BIG)], {"a": BIG}, BIG)):
            for action in (slack, common_slack):
                self.fails(NoneFits, {}, action, lines, sizes, limit)

    def raises(self, error, field, value, action, *args):
        with self.assertRaises(error) as caught:
            action(*args)
        self.assertIs(getattr(caught.exception, field), value)

    def test_errors(self):
        right = [line(a=1, b=1), line(b=2)]
        for action in (slack, common_slack):
            for value in (*ODD_VALUES, {line(a=1): 1}, ""):
                if not isinstance(value, (list, tuple)) or not value:
                    self.raises(InvalidLine, "value", value, action, value, None, None)
            for value in (*ODD_VALUES, *odd_values(), (("b", 1), ("a", 1)), (("a", 0),), (("a", True),), [("a", 1)]):
                if isinstance(value, tuple) and value == ():
                    continue
                self.raises(InvalidLine, "value", value, action, [*right, value, None], None, None)
                self.raises(InvalidLine, "value", value, action, (value, *right), None, None)
            for value in odd_values():
                self.raises(InvalidLine, "value", value, action, value, None, None)
                self.raises(InvalidSizes, "name", None, action, right, value, value)
                self.raises(InvalidSizes, "name", "b", action, right, {"a": 1, "b": value}, value)
                self.raises(InvalidCount, "value", value, action, right, {"a": 1, "b": 1}, value)
            for odd in odd_keys():
                self.raises(InvalidSizes, "name", "a", action, right, {odd: 1}, 9)
            for value in ODD_VALUES:
                if not isinstance(value, dict):
                    self.raises(InvalidSizes, "name", None, action, right, value, None)
                if not (type(value) is int and value > 0):
                    self.raises(InvalidSizes, "name", "a", action, right, {"a": value, "b": value}, None)
                    self.raises(InvalidSizes, "name", "b", action, right, {"a": 1, "b": value, "c": None}, None)
                if not (type(value) is int and value >= 0):
                    self.raises(InvalidCount, "value", value, action, right, {"a": 1, "b": 1}, value)
                    self.raises(InvalidCount, "value", value, action, [()], {}, value)
            self.raises(InvalidSizes, "name", None, action, [()], None, 5)
            self.fails(InvalidSizes, {"name": "a"}, action, right, {}, 0)

    def test_names_of_arguments(self):
        self.gives(3, common_slack, lines=[line(a=1)], sizes={"a": 2}, limit=5)
        self.gives({"a": 3}, slack, lines=[line(a=1)], sizes={"a": 2}, limit=5)

    def test_some_lines(self):
        chance = random.Random(81)
        refused = 0
        for _ in range(600):
            lines = [tuple((frame, chance.randint(1, 4)) for frame in "abc" if chance.random() < .6) for _ in range(chance.randint(1, 4))]
            frames = sorted({frame for one in lines for frame, _ in one})
            sizes = {frame: chance.randint(1, 9) for frame in frames}
            limit = chance.randint(0, 90)
            if greatest(lines, sizes) > limit:
                refused += 1
                self.fails(NoneFits, {}, slack, lines, sizes, limit)
                self.fails(NoneFits, {}, common_slack, lines, sizes, limit)
                continue
            alone = {frame: max(more for more in range(100) if greatest(lines, {**sizes, frame: sizes[frame] + more}) <= limit) for frame in frames}
            common = max((more for more in range(100) if greatest(lines, {frame: sizes[frame] + more for frame in frames}) <= limit), default=None) if frames else None
            self.has(alone, common, lines, sizes, limit)
        self.assertGreater(refused, 50)


if __name__ == "__main__":
    unittest.main()
