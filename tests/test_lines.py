from nestdeep.errors import InvalidCount, InvalidLine, InvalidSizes, InvalidText
from nestdeep.lines import is_line, is_within, line_size, line_sum, line_text, line_times, parse_line
from tests.helpers import BIG, Case, NAMES, NO_NAMES, ODD_VALUES

LINES = [
    (), (("a", 1),), (("z", 1),), (("a", 1), ("b", 2)), (("a", BIG), ("b", 10 ** 59)),
    (("abcdefgh", 3), ("b", 2)), (("a", 5), ("aa", 4), ("ab", 3), ("b", 2), ("ba", 1), ("zzzzzzzz", 9)),
]
NO_LINES = [
    None, True, 0, 5, "", "a", "0", b"", [], {}, set(), frozenset(), object(), ("a", 1), ("a",), (1,), ((),),
    [("a", 1)], (["a", 1],), (("a", 0),), (("a", -1),), (("a", -BIG),), (("a", True),), (("a", False),),
    (("a", None),), (("a", "1"),), (("a", (1,)),), (("a", [1]),), (("a",),), (("a", 1, 1),), ((1, "a"),),
    (("a", 1), ("a", 1)), (("a", 1), ("a", 2)), (("b", 1), ("a", 1)), (("a", 1), ("c", 1), ("b", 1)),
    (("a", 1), None), (("a", 1), ()), (("a", 1), ["b", 1]), (("a", 1), ("b", True)), (("b", 1), ("aa", 1)),
    ((("a", 1),),), {"a": 1}, (("ab", 1), ("a", 1)), ("ab",), ("a1",),
]


class IsLine(Case):
    def test_lines(self):
        for line in LINES:
            self.gives(True, is_line, line)
        for name in NAMES:
            self.gives(True, is_line, ((name, 1),))

    def test_others(self):
        for value in NO_LINES:
            self.assertIs(is_line(value), False, value)
        for name in NO_NAMES:
            self.assertIs(is_line(((name, 1),)), False, name)

    def test_by_name(self):
        self.assertIs(is_line(value=()), True)


class Sums(Case):
    def test_sums(self):
        self.gives((), line_sum, [])
        self.gives((), line_sum, ())
        self.gives((), line_sum, [(), ()])
        self.gives((("a", 1),), line_sum, [(("a", 1),)])
        self.gives((("a", 3), ("b", 1), ("c", 4)), line_sum,
                   [(("a", 1), ("c", 4)), (("b", 1),), (), (("a", 2),)])
        self.gives((("a", 3), ("b", 1)), line_sum, ((("b", 1),), (("a", 3),)))
        self.gives((("a", 2 * BIG), ("b", 2 * 10 ** 59)), line_sum, [LINES[4], LINES[4]])
        self.is_same(line_sum(lines=[(("a", 1),)] * 400), (("a", 400),))

    def test_no_lines(self):
        for value in NO_LINES:
            self.fails(InvalidLine, {"value": value}, line_sum, [(), (("a", 1),), value, None])
            self.fails(InvalidLine, {"value": value}, line_sum, (value, ()))

    def test_a_line_is_no_list_of_lines(self):
        self.fails(InvalidLine, {"value": ("a", 1)}, line_sum, (("a", 1),))


class Times(Case):
    def test_times(self):
        line = (("a", 2), ("b", BIG))
        self.gives((), line_times, line, 0)
        self.gives((), line_times, (), 0)
        self.gives((), line_times, (), 7)
        self.gives(line, line_times, line, 1)
        self.gives((("a", 6), ("b", 3 * BIG)), line_times, line, 3)
        self.gives((("a", 2 * BIG), ("b", BIG * BIG)), line_times, line, BIG)
        self.is_same(line_times(line=(("a", 1),), count=4), (("a", 4),))

    def test_what_is_returned_can_be_passed_again(self):
        line = (("a", BIG),)
        for _ in range(5):
            line = line_times(line, BIG)
        self.is_same(line, (("a", BIG ** 6),))
        self.is_same(parse_line(line_text(line)), line)

    def test_wrong_counts(self):
        for count in (-1, -BIG, True, False, None, "1", "", (), [], (1,), {}, object(), b"1"):
            self.fails(InvalidCount, {"value": count}, line_times, (("a", 1),), count)
            self.fails(InvalidCount, {"value": count}, line_times, (), count)

    def test_the_line_comes_first(self):
        for value in NO_LINES:
            self.fails(InvalidLine, {"value": value}, line_times, value, 1)
            self.fails(InvalidLine, {"value": value}, line_times, value, -1)
            self.fails(InvalidLine, {"value": value}, line_times, value, True)


class Sizes(Case):
    def test_sizes(self):
        self.gives(0, line_size, (), {})
        self.gives(0, line_size, (), {"a": 0, "b": None})
        self.gives(6, line_size, (("a", 2),), {"a": 3})
        self.gives(2 * 3 + 5 * 7, line_size, (("a", 2), ("b", 5)), {"b": 7, "a": 3, "c": True, 5: "x"})
        self.gives(BIG * BIG + 1, line_size, (("a", BIG), ("b", 1)), {"a": BIG, "b": 1})
        self.is_same(line_size(line=(("a", 2),), sizes={"a": 1}), 2)

    def test_wrong_sizes(self):
        line = (("a", 1), ("b", 2), ("c", 1))
        self.fails(InvalidSizes, {"name": "a"}, line_size, line, {})
        self.fails(InvalidSizes, {"name": "b"}, line_size, line, {"a": 1})
        self.fails(InvalidSizes, {"name": "b"}, line_size, line, {"c": 1, "a": 1})
        self.fails(InvalidSizes, {"name": "c"}, line_size, line, {"b": 1, "a": 1})
        for wrong in (0, -1, True, False, None, "1", (1,), [1], {}, object()):
            self.fails(InvalidSizes, {"name": "b"}, line_size, line, {"c": wrong, "b": wrong, "a": 1})
            self.fails(InvalidSizes, {"name": "a"}, line_size, line, {"a": wrong, "b": 1, "c": 1})

    def test_the_line_comes_first(self):
        for value in NO_LINES:
            self.fails(InvalidLine, {"value": value}, line_size, value, {})
            self.fails(InvalidLine, {"value": value}, line_size, value, {"a": 1})


class Within(Case):
    def test_within(self):
        yes = [
            ((), ()), ((), (("a", 1),)), ((("a", 1),), (("a", 1),)), ((("a", 1),), (("a", 2), ("b", 1))),
            ((("b", BIG),), (("a", 1), ("b", BIG))), ((("a", 1), ("c", 1)), (("a", 1), ("b", 1), ("c", 1))),
        ]
        no = [
            ((("a", 1),), ()), ((("a", 2),), (("a", 1),)), ((("a", 1),), (("b", 9),)),
            ((("a", 1), ("b", 2)), (("a", 5), ("b", 1))), ((("b", BIG + 1),), (("a", 1), ("b", BIG))),
            ((("a", 1), ("b", 1)), (("a", 2),)),
        ]
        for line, other in yes:
            self.gives(True, is_within, line, other)
        for line, other in no:
            self.gives(False, is_within, line, other)
        self.assertIs(is_within(other=(("a", 1),), line=()), True)

    def test_wrong_lines(self):
        for value in NO_LINES:
            self.fails(InvalidLine, {"value": value}, is_within, value, ())
            self.fails(InvalidLine, {"value": value}, is_within, (), value)
            self.fails(InvalidLine, {"value": value}, is_within, value, None if value is not None else 7)


class Texts(Case):
    TEXTS = [
        ((), "0"), ((("a", 1),), "1 a"), ((("a", 2), ("b", 13)), "2 a + 13 b"),
        ((("abcdefgh", 10), ("zz", BIG)), f"10 abcdefgh + {BIG} zz"),
        ((("a", 1), ("b", 2), ("c", 3), ("d", 4), ("e", 5), ("f", 6)), "1 a + 2 b + 3 c + 4 d + 5 e + 6 f"),
    ]

    def test_written_and_read(self):
        for line, text in self.TEXTS:
            self.gives(text, line_text, line)
            self.gives(line, parse_line, text)
        for line in LINES:
            self.is_same(parse_line(line_text(line)), line)
        self.is_same(line_text(line=()), "0")
        self.is_same(parse_line(text="3 a"), (("a", 3),))

    def test_no_lines(self):
        for value in NO_LINES:
            self.fails(InvalidLine, {"value": value}, line_text, value)

    def test_no_strings(self):
        for value in ODD_VALUES:
            if not isinstance(value, str):
                self.fails(InvalidText, {"line": 0}, parse_line, value)

    def test_other_texts(self):
        texts = [
            "", " ", "\n", "0\n", "00", "-0", " 0", "0 ", "0 a", "a", "1", "1a", "1  a", " 1 a", "1 a ", "1 a\n",
            "01 a", "-1 a", "+1 a", "1 a b", "1 A", "1 abcdefghi", "1 loop", "a 1", "1 a +", "1 a + ", " + 1 a",
            "1 a+2 b", "1 a  + 2 b", "1 a +  2 b", "1 a + 0", "0 + 1 a", "1 a + 0 b", "1 a + 2 a", "2 b + 1 a",
            "1 a 2 b", "1 a, 2 b", "1_0 a", "1 a\n+ 2 b", "x a", "1 1", "one a", "1 a + b", "1 a + 2", "+", " + ",
            "1. a", "0x1 a", "1 a + + 2 b", "0 + 0", "1 a + 01 b", "1 now", "1 end",
        ]
        for text in texts:
            self.fails(InvalidText, {"line": 1}, parse_line, text)
