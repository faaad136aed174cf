import random
import unittest

from nestdeep.errors import InvalidHouse, InvalidText
from nestdeep.functions import is_name
from nestdeep.house import House
from nestdeep.housetexts import entry_text, parse_entry
from nestdeep.programs import Program
from tests.helpers import BIG, NO_NAMES, ODD_VALUES, Case
from tests.odd import odd_values

A, B = ("take", 1, "a"), ("take", 2, "b")
PROGRAM = Program([("main", (), (A, ("shut", ("x",)))), ("tick", (), (B,)), ("f", ("c",), (("do", "c"),))])
BARE = Program([("main", (), ()), ("tick", (), ()), ("f", ("c",), (("do", "c"),))])
NONE = Program([("f", ("c",), (("do", "c"),))])
MOST = 10 ** 12


def numbered(word, least):
    return word.isdigit() and word.isascii() and str(int(word)) == word and int(word) >= least


def is_text(program, text):
    """Whether this is the text of an entry: it is taken apart roughly, and what it says is written again."""
    if not text.endswith("\n"):
        return False
    rows = [row.split(" ") for row in text[:-1].split("\n")]
    try:
        assert rows[0][0] == "house" and is_name(rows[0][1]) and rows[1][0] == "task"
        handlers, sizes, limit = {}, {}, None
        for words in rows[2:]:
            if words[0] == "handler":
                assert numbered(words[3], 1) and words[1] not in handlers
                handlers[words[1]] = (words[2], int(words[3]), tuple(words[5:]))
            elif words[0] == "size":
                assert numbered(words[2], 1)
                sizes[words[1]] = int(words[2])
            else:
                assert words[0] == "limit" and numbered(words[1], 0) and limit is None
                limit = int(words[1])
        house = House(program, rows[1][1], handlers, shut=tuple(rows[1][3:]))
        assert not sizes or list(sizes) == program.frames()
        return entry_text(rows[0][1], (house, sizes or None, limit)) == text
    except (AssertionError, IndexError, InvalidHouse):
        return False


def can_go_on(program, rows):
    """Whether some text of an entry begins with these lines: it is looked for with the handlers that lack."""
    begun = "".join(f"{row}\n" for row in rows)
    if is_text(program, begun):
        return True
    plain = [name for name in program.names() if not program.params(name)]
    if not plain:
        return False
    if len(rows) < 1:
        begun += "house h\n"
    if len(rows) < 2:
        begun += f"task {plain[0]}\n"
    had = {row.split(" ")[1] for row in rows if row.startswith("handler ") and len(row.split(" ")) > 1}
    named = {word for row in rows[1:] if " shut " in row for word in row.split(" shut ")[1].split(" ")}
    lacking = "".join(f"handler {name} {plain[0]} 1\n" for name in sorted(named - had))
    told = [row.split(" ")[1] for row in rows if row.startswith("size ") and len(row.split(" ")) > 1]
    left = "".join(f"size {frame} 1\n" for frame in program.frames() if frame not in told)
    return any(is_text(program, begun + more) for more in (lacking, left, lacking + left))


def wrong_line(program, text):
    """The number in InvalidText, None for the text of an entry."""
    if is_text(program, text):
        return None
    rows = text.split("\n")
    unended = rows.pop()
    for number in range(1, len(rows) + 1):
        if not can_go_on(program, rows[:number]):
            return number
    return len(rows) + 1 if unended else 0


class Texts(Case):
    HANDLERS = {"u": ("tick", 2, ("u", "v")), "v": ("main", MOST, ()), "x": ("main", 1, ("v",))}
    FULL = ("house h\ntask main shut u x\nhandler u tick 2 shut u v\nhandler v main 1000000000000\nhandler x main 1 shut v\nsize a 3\nsize b 40\nlimit 0\n")

    def reads(self, text, name, house, sizes, limit, program=PROGRAM):
        entry = (house, sizes, limit)
        self.gives(text, entry_text, name, entry)
        told, found = parse_entry(program, text)
        self.assertEqual((told, found), (name, entry))
        self.assertEqual([type(found), type(found[0]), type(found[1]), type(found[2])], [tuple, House, type(sizes), type(limit)])
        self.assertTrue(is_text(program, text))
        self.refused(text[:-1], len(text.split("\n")) - 1, program)

    def refused(self, text, line, program=PROGRAM):
        self.fails(InvalidText, {"line": line}, parse_entry, program, text)
        self.is_same(wrong_line(program, text), line)

    def test_entries(self):
        house = House(PROGRAM, "main", self.HANDLERS, shut=("u", "x"))
        self.reads(self.FULL, "h", house, {"a": 3, "b": 40}, 0)
        self.reads("house entry\ntask tick\n", "entry", House(PROGRAM, "tick"), None, None)
        self.reads("house h\ntask main\nlimit 17\n", "h", House(PROGRAM, "main"), None, 17)
        self.reads(f"house h\ntask main\nsize a {BIG}\nsize b 1\n", "h", House(PROGRAM, "main"), {"a": BIG, "b": 1}, None)
        self.reads(f"house h\ntask main\nhandler q tick 7\nsize a 1\nsize b 1\nlimit {BIG}\n", "h", House(PROGRAM, "main", {"q": ("tick", 7, ())}), {"a": 1, "b": 1}, BIG)
        five = {name: ("main", 1, tuple("stuvw")) for name in "stuvw"}
        self.reads("house h\ntask main shut s t u v w\n" + "".join(f"handler {name} main 1 shut s t u v w\n" for name in "stuvw"), "h", House(PROGRAM, "main", five, shut=tuple("stuvw")), None, None)
        self.reads("house h\ntask main\nlimit 3\n", "h", House(BARE, "main"), None, 3, BARE)

    def test_names_of_arguments(self):
        house = House(PROGRAM, "main")
        self.gives("house h\ntask main\n", entry_text, name="h", entry=(house, None, None))
        self.assertEqual(parse_entry(program=PROGRAM, text="house h\ntask main\n"), ("h", (house, None, None)))

    def test_other_keys_of_sizes_are_not_written(self):
        self.gives("house h\ntask main\nsize a 1\nsize b 2\n", entry_text, "h", (House(PROGRAM, "main"), {"z": 9, "b": 2, "a": 1}, None))

    def test_no_strings_and_no_lines(self):
        for value in (*ODD_VALUES, *odd_values(), b"house h\ntask main\n", ["house h\n", "task main\n"]):
            if not isinstance(value, str):
                for program in (PROGRAM, NONE):
                    with self.assertRaises(InvalidText) as caught:
                        parse_entry(program, value)
                    self.is_same(caught.exception.line, 0)
        self.refused("", 0)
        self.refused("", 0, NONE)

    def test_programs_that_have_no_entries(self):
        for text in ("house h\n", "house h", "\n", "x", "house h\ntask f\n", "task\n\n"):
            self.refused(text, 1, NONE)

    def test_texts_that_end_early(self):
        self.refused("house h\n", 0)
        self.refused("house h", 1)
        self.refused("house h\ntask main", 2)
        self.refused("house h\ntask main shut u\n", 0)
        self.refused("house h\ntask main\nhandler u tick 1 shut v\n", 0)
        self.refused("house h\ntask main\nsize a 1\n", 0)
        self.refused("house h\ntask main\nsize a 1", 3)
        self.refused("house h\ntask main\nlimit 1", 3)
        rows = self.FULL.split("\n")[:-1]
        for many in range(len(rows)):
            text = "".join(f"{row}\n" for row in rows[:many])
            if many == 7:
                self.assertEqual(parse_entry(PROGRAM, text)[1][2], None)
            elif many == 5:
                self.assertEqual(parse_entry(PROGRAM, text)[1][1:], (None, None))
            else:
                self.refused(text, 0)

    def test_first_lines(self):
        for name in NO_NAMES:
            if isinstance(name, str) and "\n" not in name:
                self.refused(f"house {name}\ntask main\n", 1)
        for row in ("", "house", "house h h", " house h", "house  h", "house h ", "House h", "task main", "house h shut u"):
            self.refused(f"{row}\ntask main\n", 1)

    def test_tasks(self):
        for row in ("", "task", "task f", "task none", "task main main", "task  main", " task main", "task main ", "task main shut", "task main shut v u", "task main shut u u", "task main shut u  v",
                    "task main shut U", "task main shut u shut", "task main u", "task main shut s t u v w x", "house h", "handler u tick 1", "size a 1", "limit 1", "task main shut u,v"):
            self.refused(f"house h\n{row}\nlimit 1\n", 2)

    def test_handlers(self):
        for row in ("", "handler", "handler u", "handler u tick", "handler u f 1", "handler u none 1", "handler u tick 0", "handler u tick 01", "handler u tick -1", "handler u tick x", "handler u tick 1 shut",
                    "handler u tick 1 u", "handler u tick 1 shut v u", "handler u tick 1 shut u u", "handler U tick 1", "handler end tick 1", "handler u tick 1000000000001", "handler  u tick 1", " handler u tick 1",
                    "handler u tick 1 ", "handler u tick 1  shut v", "handler u tick 1 shut q", "handler u tick 1 shut v w x y z", "handler u tick 1.0", "handler u tick 1_0"):
            self.refused(f"house h\ntask main\n{row}\nlimit 1\n", 3)
        self.refused("house h\ntask main\nhandler u tick 1\nhandler u tick 1\n", 4)
        self.refused("house h\ntask main\nhandler u tick 1\nhandler t tick 1\n", 4)
        self.refused("house h\ntask main\n" + "".join(f"handler {name} tick 1\n" for name in "stuvwx"), 8)
        self.refused("house h\ntask main\nlimit 1\nhandler u tick 1\n", 4)
        self.refused("house h\ntask main\nsize a 1\nhandler u tick 1\n", 4)
        self.refused("house h\ntask main\nsize a 1\nsize b 1\nhandler u tick 1\n", 5)

    def test_shuts_whose_handlers_come_in_later_lines(self):
        self.refused("house h\ntask main shut u\nhandler v tick 1\n", 3)
        self.refused("house h\ntask main shut u w\nhandler u tick 1\nhandler x tick 1\n", 4)
        self.refused("house h\ntask main shut u w\nhandler u tick 1\nlimit 1\n", 4)
        self.refused("house h\ntask main shut u w\nhandler u tick 1\nsize a 1\n", 4)
        self.refused("house h\ntask main\nhandler u tick 1 shut t\n", 3)
        self.refused("house h\ntask main\nhandler t tick 1\nhandler u tick 1 shut s\n", 4)
        self.refused("house h\ntask main\nhandler u tick 1 shut w\nhandler v tick 1 shut x\nhandler w tick 1\nlimit 5\n", 6)
        self.refused("house h\ntask main shut s t u v w\nhandler a tick 1\n", 3)
        self.refused("house h\ntask main shut t u v w\nhandler a tick 1 shut z\n", 3)
        self.refused("house h\ntask main shut t u v\nhandler a tick 1 shut z\nhandler b tick 1\n", 4)
        self.reads("house h\ntask main shut u w\nhandler u tick 1 shut w\nhandler w tick 1 shut u w\n", "h", House(PROGRAM, "main", {"u": ("tick", 1, ("w",)), "w": ("tick", 1, ("u", "w"))}, shut=("u", "w")), None, None)

    def test_sizes_and_limits(self):
        for row in ("size", "size a", "size a 0", "size a 01", "size b 1", "size z 1", "size a 1 1", "size a x", "size  a 1", "size a -1", "size A 1", " size a 1", "sizes a 1", "size a +1"):
            self.refused(f"house h\ntask main\n{row}\n", 3)
        for row in ("size a 1", "size c 1", "limit 1", "size b 0", "", "handler u tick 1"):
            self.refused(f"house h\ntask main\nsize a 1\n{row}\n", 4)
        for row in ("limit", "limit 01", "limit -1", "limit 1 1", "limit x", "limit  1", " limit 1", "limit 00", "limit 1 ", "Limit 1", "limit +1"):
            self.refused(f"house h\ntask main\n{row}\n", 3)
        for row in ("limit 1", "limit 2", "size a 1", "", "handler u tick 1", "task main", "house h"):
            self.refused(f"house h\ntask main\nlimit 1\n{row}\n", 4)
        self.refused("house h\ntask main\nsize a 1\n", 3, BARE)
        self.refused("house h\ntask main\nsize a 1\nsize b 1\nsize c 1\n", 5)

    def test_some_spoilt_texts(self):
        chance = random.Random(94)
        lines = {}
        for _ in range(900):
            interrupts = sorted(chance.sample("stuvwx", chance.randint(0, 4)))
            handlers = {name: (chance.choice(["main", "tick"]), chance.choice([1, 20, MOST]), tuple(one for one in interrupts if chance.random() < .3)) for name in interrupts}
            program = chance.choice([PROGRAM, PROGRAM, BARE])
            sizes = {frame: chance.randint(1, 30) for frame in program.frames()} if chance.random() < .6 else None
            house = House(program, "main", handlers, shut=tuple(one for one in interrupts if chance.random() < .3))
            text = entry_text("h", (house, sizes or None, chance.choice([None, 0, 5])))
            self.assertEqual(entry_text(*parse_entry(program, text)), text)
            for _ in range(3):
                other = self.spoilt(chance, text)
                line = wrong_line(program, other)
                if line is None:
                    self.assertEqual(entry_text(*parse_entry(program, other)), other)
                else:
                    with self.assertRaises(InvalidText, msg=other) as caught:
                        parse_entry(program, other)
                    self.is_same(caught.exception.line, line, other)
                lines[line] = lines.get(line, 0) + 1
        self.assertGreater(min(lines[line] for line in (None, 0, 1, 2, 3, 4, 5)), 30, lines)

    def spoilt(self, chance, text):
        """The text with one line, one word or one sign changed, left out or put in again."""
        way = chance.randint(0, 6)
        rows = text.split("\n")
        at = chance.randrange(len(rows))
        if way == 0:
            del rows[at]
        elif way == 1:
            rows.insert(at, chance.choice(rows))
        elif way == 2:
            other = chance.randrange(len(rows))
            rows[at], rows[other] = rows[other], rows[at]
        elif way == 3:
            words = rows[at].split(" ")
            words[chance.randrange(len(words))] = chance.choice(["shut", "u", "v", "z", "a", "main", "tick", "f", "0", "7", "", "handler", "limit", "size", "task", "house"])
            rows[at] = " ".join(words)
        elif way == 4:
            rows[at] += chance.choice([" shut u", " shut z", " u", " 1", " ", "x"])
        elif way == 5:
            place = chance.randrange(len(text))
            return text[:place] + chance.choice(["", " ", "\n", "1", "z"]) + text[place + 1:]
        else:
            return text[:chance.randrange(len(text))]
        return "\n".join(rows)


if __name__ == "__main__":
    unittest.main()
