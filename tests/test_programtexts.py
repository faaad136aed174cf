import random

from nestdeep.errors import InvalidProgram, InvalidText
from nestdeep.programs import Program
from nestdeep.programtexts import parse_program, program_text
from tests.helpers import BIG, Case, NO_NAMES, ODD_VALUES, RESERVED_WORDS

EXAMPLE = "function f c\n  take 1 a\n  either\n    do c\n  else\n  take 9 b\nfunction t\n  call f t\n"
EVERYTHING = f"""\
function aa
function ab cd ef
  take {BIG} abcdefgh
  shut u
  shut u v w
  room
  room
    do cd
    room
      do ef
  call aa
  call ab ef cd
  call b aa
  either
  else
  either
    stop
    either
      loop
        stop
    else
      loop 7
    stop
  else
    take 1 a
  loop 1000000000000
    loop
      loop 1
        loop 2
          stop
  stop
function b x
"""
FUNCTIONS = [
    ("aa", (), ()),
    ("ab", ("cd", "ef"), (
        ("take", BIG, "abcdefgh"), ("shut", ("u",)), ("shut", ("u", "v", "w")), ("room", ()),
        ("room", (("do", "cd"), ("room", (("do", "ef"),)))), ("call", "aa", ()), ("call", "ab", ("ef", "cd")),
        ("call", "b", ("aa",)), ("either", (), ()),
        ("either", (("stop",), ("either", (("loop", None, (("stop",),)),), (("loop", 7, ()),)), ("stop",)),
         (("take", 1, "a"),)),
        ("loop", 10 ** 12, (("loop", None, (("loop", 1, (("loop", 2, (("stop",),)),)),)),)),
        ("stop",),
    )),
    ("b", ("x",), ()),
]


def with_body(*rows):
    return "".join(f"{row}\n" for row in ("function f x", *rows, "function g"))


def random_body(source, depth, left):
    rows = []
    for _ in range(source.randrange(4)):
        word = source.choice(["take", "shut", "call", "do", "stop", "room", "either", "loop"])
        if word in ("room", "either", "loop") and depth == 4:
            word = "stop"
        inner = (lambda: random_body(source, depth + 1, left)) if word in ("room", "either", "loop") else None
        rows.append({
            "take": lambda: ("take", source.randrange(1, 30), source.choice("abc")),
            "shut": lambda: ("shut", tuple(sorted(source.sample("uvw", source.randrange(1, 4))))),
            "call": lambda: source.choice([("call", "f", (source.choice(["x", "g"]),)), ("call", "g", ())]),
            "do": lambda: ("do", "x"), "stop": lambda: ("stop",), "room": lambda: ("room", inner()),
            "either": lambda: ("either", inner(), inner()),
            "loop": lambda: ("loop", source.choice([None, 1, 12]), inner()),
        }[word]())
    return tuple(rows)


class Model:
    """A reader by descent, other than that of the package: it finds the first wrong line."""

    def __init__(self, text):
        self.rows = text.split("\n")[:-1]
        self.unended = text.split("\n")[-1] != ""
        self.at = 0

    def good(self, row):
        words = row.strip(" ").split(" ")
        names = [word for word in words[1:] if word.isalpha() and word.islower() and len(word) < 9
                 and word not in RESERVED_WORDS]
        head, many = words[0], len(words) - 1
        number = many and words[1].isdigit() and words[1][0] != "0"
        depth = len(row) - len(row.lstrip(" "))
        if row != row.rstrip(" ") or depth % 2 or "" in words or (depth == 0) != (head == "function"):
            return False
        if head in ("function", "call"):
            return many in (1, 2, 3) and len(names) == many
        if head == "take":
            return many == 2 and number and len(names) == 1 and names[0] == words[2]
        if head == "shut":
            return many > 0 and len(names) == many
        if head == "do":
            return many == 1 and len(names) == 1
        if head == "loop":
            return many == 0 or (many == 1 and number)
        return head in ("room", "either", "stop", "else") and many == 0

    def peek(self):
        """Depth and first word of the next line, if it is good by itself."""
        if self.at >= len(self.rows):
            return None
        row = self.rows[self.at]
        if not self.good(row):
            raise StopIteration(self.at + 1)
        return (len(row) - len(row.lstrip(" "))) // 2, row.split()[0]

    def block(self, depth):
        """Read lines that are at least so deep; stop at the first that is not."""
        while True:
            seen = self.peek()
            if seen is None or seen[0] < depth:
                return
            if seen[0] > depth or seen[1] == "else":
                if seen == (depth - 1, "else"):
                    return
                raise StopIteration(self.at + 1)
            self.at += 1
            if seen[1] in ("room", "loop", "either", "function"):
                self.block(depth + 1)
            if seen[1] == "either":
                if self.peek() != (depth, "else"):
                    raise StopIteration(self.at + 1)
                self.at += 1
                self.block(depth + 1)

    def first_wrong(self):
        try:
            self.block(0)
            if self.at < len(self.rows):
                return self.at + 1
        except StopIteration as found:
            return found.value
        return len(self.rows) + 1 if self.unended else 0


class Good(Case):
    def test_the_example(self):
        program = parse_program(EXAMPLE)
        self.is_same([program.names(), program.uses("t"), program.body("f")],
                     [["f", "t"], ["f", "t"], (("take", 1, "a"), ("either", (("do", "c"),), ()), ("take", 9, "b"))])
        self.gives(EXAMPLE, program_text, program)

    def test_everything(self):
        program = parse_program(EVERYTHING)
        self.assertIs(type(program), Program)
        self.is_same(program.functions(), FUNCTIONS)
        self.is_same(program_text(Program(FUNCTIONS[::-1])), EVERYTHING)
        self.is_same(program_text(program=program), EVERYTHING)
        self.assertTrue(parse_program(text=EVERYTHING) == program)

    def test_small_texts(self):
        for text, functions in (("function a\n", [("a", (), ())]), ("function a b c\n", [("a", ("b", "c"), ())]),
                                ("function a\nfunction b\n  stop\n", [("a", (), ()), ("b", (), (("stop",),))])):
            self.is_same(parse_program(text).functions(), functions)
            self.is_same(program_text(Program(functions)), text)

    def test_random_programs(self):
        source = random.Random(5)
        for _ in range(60):
            program = Program([("f", ("x",), random_body(source, 0, 40)), ("g", (), ())])
            text = program_text(program)
            self.assertTrue(parse_program(text) == program, text)
            self.is_same(Model(text).first_wrong(), 0)


class WrongLines(Case):
    def wrong(self, line, text):
        error = self.fails(InvalidText, {"line": line}, parse_program, text)
        self.is_same(Model(text).first_wrong(), line, text)
        return error

    def test_no_strings(self):
        for value in ODD_VALUES:
            if not isinstance(value, str):
                self.fails(InvalidText, {"line": 0}, parse_program, value)

    def test_the_empty_text(self):
        error = self.wrong(0, "")
        self.assertIs(type(error.__cause__), InvalidProgram)
        self.is_same((error.__cause__.problem, error.__cause__.name), ("functions", ""))

    def test_missing_line_feeds(self):
        self.wrong(1, "function f")
        self.wrong(2, "function f\n  stop")
        self.wrong(2, "function f\n ")
        self.wrong(2, "function f\nx")
        self.wrong(6, EXAMPLE[:EXAMPLE.index("\n", EXAMPLE.index("take 9"))])
        for cut in range(1, len(EXAMPLE)):
            text = EXAMPLE[:cut]
            if not text.endswith("\n"):
                self.wrong(text.count("\n") + 1, text)

    def test_empty_lines(self):
        self.wrong(1, "\n")
        self.wrong(2, "function f\n\n")
        self.wrong(1, "\nfunction f\n")
        self.wrong(2, "function f\n  \n")
        self.wrong(3, "function f\n  stop\n\n  stop\n")

    def test_shapes(self):
        rows = [
            "function", "function f ", "function f x y z", "function  f", " function f", "function F", "function f1",
            "function f 1", "function abcdefghi", "function f abcdefghi", "function function", "function f loop",
            "  function f", "Function f", "functions f", "fun", "f", "  f", "  f x", "  ", "", " ", "# f",
        ]
        for row in rows:
            self.wrong(1, f"{row}\n")
            self.wrong(2, f"function a\n{row}\n  stop\n")
        rows = [
            "take", "take 1", "take a", "take a 1", "take 1 a b", "take 0 a", "take 01 a", "take -1 a", "take +1 a",
            "take 1a", "take 1  a", "take  1 a", "take 1 a ", "take 1_0 a", "take x a", "take 1 A", "take 1 take",
            "take 1 abcdefghi", "take 1 1", "take 1. a", "take one a", "Take 1 a",
            "shut", "shut 1", "shut U", "shut u  v", "shut u ", "shut  u", "shut u 1", "shut u,v", "shut room", "shut u v now",
            "room 1", "room x", "room ", "rooms", "ROOM", "room:", "call", "call F", "call f x y z", "call f x  y",
            "call f ", "call f 1", "call f(x)", "call call", "call f end", "call 1", "do", "do x y", "do X", "do 1", "do ",
            "do  x", "do do", "either x", "either 1", "either ", "eithe", "else x", "else ", "loop 0", "loop 01", "loop -1",
            "loop x", "loop ", "loop  5", "loop 5 ", "loop 5 5", "loop None", "loop 1 a", "loop +5", "loop 1_0", "loops",
            "stop x", "stop 1", "stop ", "stopp", "Stop", "end", "now", "or", "task f", "x", "1", "take 1 a;", "form",
        ]
        for row in rows:
            self.wrong(2, with_body(f"  {row}"))
            self.wrong(3, with_body("  room", f"    {row}"))
            self.wrong(2, f"function f\n  {row}\nnonsense\n")

    def test_names_in_lines(self):
        for name in NO_NAMES:
            if isinstance(name, str) and "\n" not in name and name != "a b":
                for row in (f"take 1 {name}", f"shut {name}", f"call {name}", f"do {name}", f"call f {name}"):
                    self.wrong(2, with_body(f"  {row}"))
                self.wrong(1, f"function {name}\n")
                self.wrong(1, f"function f {name}\n")

    def test_depths(self):
        for row in ("stop", "take 1 a", "room", "either", "loop", "do x", "call g", "shut u", "loop 5"):
            self.wrong(1, f"  {row}\n")
            self.wrong(1, f"{row}\n")
            self.wrong(2, f"function f x\n{row}\n")
            for spaces in (1, 3, 4, 5, 6, 8):
                self.wrong(2, with_body(" " * spaces + row))
                self.wrong(3, with_body("  stop", " " * spaces + row))
            for spaces in (0, 1, 3, 5, 6, 7, 8):
                self.wrong(3, with_body("  room", " " * spaces + row))
                self.wrong(4, with_body("  loop", "    loop 5", " " * (spaces + (2 if spaces else 0)) + row))
        self.wrong(4, with_body("  room", "    stop", "      stop"))
        self.wrong(4, with_body("  room", "  stop", "    stop"))
        self.wrong(5, with_body("  either", "  else", "    stop", "      stop"))
        self.wrong(2, "function f\n  function g\n")
        self.wrong(2, "function f\n function g\n")

    def test_else_without_its_either(self):
        self.wrong(1, "else\n")
        self.wrong(1, "  else\n")
        self.wrong(2, "function f\nelse\n")
        self.wrong(2, with_body("  else"))
        self.wrong(3, with_body("  room", "  else"))
        self.wrong(3, with_body("  loop", "    else"))
        self.wrong(3, with_body("  either", "    else"))
        self.wrong(4, with_body("  either", "  else", "  else"))
        self.wrong(4, with_body("  either", "  else", "    else"))
        self.wrong(5, with_body("  either", "  else", "    stop", "  else"))
        self.wrong(5, with_body("  either", "  else", "  stop", "  else"))
        self.wrong(3, with_body("  either", "      else"))
        self.wrong(3, with_body("  either", " else"))
        self.wrong(3, with_body("  either", "   else"))
        self.wrong(4, with_body("  either", "    room", "    else"))

    def test_either_without_its_else(self):
        self.wrong(3, "function f\n  either\n")
        self.wrong(4, "function f\n  either\n    stop\n")
        self.wrong(3, "function f\n  either\n  else")
        self.wrong(3, "function f\n  either\n  stop\n  else\n")
        self.wrong(4, "function f\n  either\n    stop\n  stop\n")
        self.wrong(3, "function f\n  either\nfunction g\n")
        self.wrong(4, "function f\n  either\n    stop\nfunction g\n")
        self.wrong(4, "function f\n  either\n    either\n  else\n")
        self.wrong(5, "function f\n  either\n    either\n    else\n")
        self.wrong(6, "function f\n  either\n    either\n    else\n      stop\n")
        self.wrong(4, "function f\n  room\n    either\n  stop\n")
        self.wrong(4, "function f\n  either\n    either\n  either\n")
        self.wrong(5, "function f\n  either\n    room\n      stop\n")
        self.wrong(3, "function f\n  either\n  either\n")

    def test_the_first_wrong_line_counts(self):
        self.wrong(2, "function f\n  stopp\nnonsense\n   x")
        self.wrong(3, "function f\n  either\n  stop\nnonsense\n")
        self.wrong(4, "function b\n  stop\nfunction a\nx\n")

    def test_every_changed_line_of_a_text(self):
        rows = EVERYTHING.split("\n")[:-1]
        for at, row in enumerate(rows):
            changes = [rows[:at] + rows[at + 1:], rows[:at] + [f"  {row}"] + rows[at + 1:], rows[:at] + [row] + rows[at:],
                       rows[:at] + ["  else"] + rows[at:], rows[:at] + [row[2:]] + rows[at + 1:], rows[:at]]
            for change in changes:
                text = "".join(f"{changed}\n" for changed in change)
                line = Model(text).first_wrong()
                if line:
                    self.fails(InvalidText, {"line": line}, parse_program, text)

    def test_random_changes(self):
        source = random.Random(8)
        base = program_text(Program([("f", ("x",), random_body(source, 0, 40) + (("either", (), ()),)), ("g", (), ())]))
        rows = [*base.split("\n")[:-1], *EVERYTHING.split("\n")[:-1]]
        for _ in range(600):
            chosen = [source.choice(rows) for _ in range(source.randrange(2, 8))]
            text = "function f x\n" + "".join(f"{row}\n" for row in chosen)
            line = Model(text).first_wrong()
            if line:
                self.fails(InvalidText, {"line": line}, parse_program, text)


class NoWrongLine(Case):
    def refused(self, problem, name, text):
        self.is_same(Model(text).first_wrong(), 0)
        error = self.fails(InvalidText, {"line": 0}, parse_program, text)
        self.assertIs(type(error.__cause__), InvalidProgram)
        self.is_same((error.__cause__.problem, error.__cause__.name), (problem, name))

    def test_bodies(self):
        for rows in (["  shut v u"], ["  shut u u"], ["  stop"] * 13, ["  loop 1000000000001"], [f"  loop {BIG}"],
                     ["  room", "    room", "      room", "        room", "          room"],
                     ["  room", "    room", "      room", "        loop", "          stop", "          loop", "            stop"],
                     ["  either", "  else", *["    stop"] * 13]):
            self.refused("body", "f", with_body(*rows))

    def test_very_deep_rooms(self):
        self.refused("body", "f", with_body(*["  " * depth + "room" for depth in range(1, 16)]))

    def test_other_problems(self):
        self.refused("repeated", "f", "function f\nfunction f\n")
        self.refused("params", "f", "function f x x\n")
        self.refused("parameter", "f", "function f f\n")
        self.refused("call", "f", with_body("  call h"))
        self.refused("args", "f", with_body("  call g x"))
        self.refused("do", "f", with_body("  do y"))
        self.refused("statements", "f", with_body(*(["  room"] + ["    stop"] * 12) * 5))
        self.refused("frames", "", with_body(*[f"  take 1 {frame}" for frame in "abcdefg"]))
        self.refused("interrupts", "", with_body("  shut a b c d e h"))
        self.refused("functions", "", "".join(f"function {a}{b}\n" for a in "abcde" for b in "vwxyz"))

    def test_functions_out_of_order(self):
        for text in ("function b\nfunction a\n", "function a\nfunction c\nfunction b\n  stop\n"):
            error = self.fails(InvalidText, {"line": 0}, parse_program, text)
            self.assertIsNone(error.__cause__)
        self.refused("call", "b", "function b\n  call c\nfunction a\n")
