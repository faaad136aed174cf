import random
import unittest

from nestdeep.bench import Bench
from nestdeep.desk import Desk
from nestdeep.errors import (
    InvalidForm, InvalidHouse, InvalidProgram, InvalidRow, InvalidSizes, InvalidText, NothingToUndo, TooMany, UnknownFunction, UnknownName,
)
from nestdeep.formtexts import form_text, read_form
from nestdeep.housetexts import entry_text
from nestdeep.lines import line_text
from nestdeep.orders import never_deeper
from nestdeep.programs import Program
from nestdeep.programtexts import program_text
from tests.benches import ERRORS, some_deed, told_error
from tests.helpers import NO_NAMES, ODD_VALUES, Case
from tests.odd import odd_values

FUNCTIONS = "function each c\n  take 1 a\n  do c\nfunction main\n  take 2 a\n  call each tick\nfunction tick\n  take 3 b\n"
HOUSE = "house h\ntask main\nhandler u tick 2\nsize a 1\nsize b 2\nlimit 21"


def desk_with(*rows):
    desk = Desk()
    desk.play(["put\n" + FUNCTIONS, *rows])
    return desk


class DeskCase(Case):
    def refuses(self, desk, error, fields, row):
        """The row is refused, and the desk is as before: what it can take back, too."""
        before = self.told(desk)
        for action in (desk.say, lambda one: desk.play([one])):
            with self.assertRaises(error) as caught:
                action(row)
            self.assertIs(type(caught.exception), error)
            for name, value in fields.items():
                self.is_same(getattr(caught.exception, name), value)
            self.assertEqual(self.told(desk), before)

    def told(self, desk):
        """What a desk answers to some rows, and behind each undo again; it is as before then."""
        rows, found = [f"{word} {name}" for word in ("form", "lines", "state") for name in ("main", "tick", "each", "h", "k")], []
        for many in range(30):
            try:
                desk.play(["undo"] * many + ["form none"])
            except NothingToUndo:
                break
            except UnknownFunction:
                found.append(many)
        answers = []
        for row in rows:
            try:
                answers.append(desk.say(row))
            except ERRORS as error:
                answers.append(told_error(error))
        return answers, found


class Rows(DeskCase):
    def test_put(self):
        desk = Desk()
        self.is_same(desk.say("put\n" + FUNCTIONS), "computed each main tick ; changed each main tick ; entries")
        self.is_same(desk.say("put\nfunction tick\n  take 3 b\n"), "computed tick ; changed ; entries")
        self.is_same(desk.say("put\nfunction more\n  call main\n"), "computed more ; changed more ; entries")
        self.is_same(desk.say(row=HOUSE), "computed ; changed ; entries h")
        self.is_same(desk.say("put\nfunction tick\n  take 4 b\n"), "computed main more tick ; changed main more tick ; entries h")

    def test_refused_functions(self):
        desk = desk_with(HOUSE)
        for rest, line in (("function f\n  take 0 a\n", 3), ("function f", 2), ("function f\n\n", 3), (" function f\n", 2), ("\n", 2), ("take 1 a\n", 2), ("function f\n  room\n    stop\n  stop", 5),
                           ("function f\n  either\n    stop\n", 5), ("function f\n  either\n    stop\nfunction g\n", 5), ("function end\n", 2), ("function f c d e\n", 2), ("function f\n   stop\n", 3)):
            self.refuses(desk, InvalidText, {"line": line}, "put\n" + rest)
        for rest in ("function g\nfunction f\n", "function tick\n  take 1 c\nfunction main\n", "function main\nfunction tick\nfunction each c\n  call none\n"):
            self.refuses(desk, InvalidText, {"line": 0}, "put\n" + rest)
        for row in ("put\n", "put"):
            self.refuses(desk, InvalidProgram, {"problem": "functions", "name": ""}, row)
        for rest, problem, name in (("function f\nfunction f\n", "repeated", "f"), ("function f c c\n", "params", "f"), ("function f\n  call none\n", "call", "f"), ("function f\n  shut v u\n", "body", "f"),
                                    ("function f\n  do c\n", "do", "f"), ("function c\n", "parameter", "each"), ("function tick c\n", "args", "main"), ("function f\n  loop 1000000000001\n", "body", "f")):
            self.refuses(desk, InvalidProgram, {"problem": problem, "name": name}, "put\n" + rest)
        self.refuses(desk, InvalidSizes, {"name": "c"}, "put\nfunction f\n  take 1 c\n")
        self.refuses(desk, InvalidHouse, {"problem": "task", "name": None}, "put\nfunction main c\n")
        letters = "abcdefghi"
        nine = "".join(f"function {letter}{letter}\n" for letter in letters) + "function nine\n" + "".join(f"  call {letter}{letter}\n" for letter in letters)
        self.refuses(desk, TooMany, {"name": "nine"}, "put\n" + nine)

    def test_drop(self):
        desk = desk_with("put\nfunction f\nfunction g\n", HOUSE)
        self.is_same(desk.say("drop f"), "computed ; changed f ; entries")
        self.refuses(desk, UnknownFunction, {"name": "f"}, "drop g f")
        self.refuses(desk, UnknownFunction, {"name": "none"}, "drop none g f")
        self.refuses(desk, InvalidProgram, {"problem": "args", "name": "main"}, "drop tick")
        self.refuses(desk, InvalidProgram, {"problem": "call", "name": "main"}, "drop each tick")
        self.refuses(desk, InvalidHouse, {"problem": "task", "name": None}, "drop main each tick g")
        self.is_same(desk.say("leave h"), "computed ; changed ; entries h")
        self.is_same(desk.say("drop main each tick g g"), "computed ; changed each g main tick ; entries")
        self.refuses(desk, UnknownFunction, {"name": "main"}, "drop main")

    def test_entries(self):
        desk = desk_with()
        self.is_same(desk.say(HOUSE), "computed ; changed ; entries h")
        self.is_same(desk.say("lines h"), "3 a + 9 b")
        self.is_same(desk.say("state h"), "kept")
        self.is_same(desk.say("house k\ntask tick"), "computed ; changed ; entries k")
        self.is_same([desk.say("state k"), desk.say("lines k")], ["open", "3 b"])
        self.is_same(desk.say(HOUSE.replace("21", "20")), "computed ; changed ; entries h")
        self.is_same(desk.say("state h"), "exceeded")
        desk.say("put\nfunction main\n  either\n    take 1 a\n  else\n    take 5 b\n")
        self.is_same(desk.say("lines h"), "1 a + 6 b ; 11 b")
        desk.say("put\nfunction main\n  take 1 a\n  call main\n")
        self.is_same([desk.say("lines h"), desk.say("state h")], ["endless", "endless"])
        desk.say("put\nfunction main\n  shut u\nfunction tick\n")
        self.is_same(desk.say("lines h"), "0")
        for row in ("lines x", "state x", "leave x", "lines main"):
            self.refuses(desk, UnknownName, {"name": row.split(" ")[1]}, row)

    def test_refused_entries(self):
        desk = desk_with(HOUSE)
        for row, line in (("house h", 0), ("house h\ntask main shut u", 0), ("house h\ntask main\nsize a 1", 0), ("house h\n", 2), ("house h\ntask each", 2), ("house h\ntask main\n", 3), (HOUSE + "\n", 7),
                          (HOUSE + "1\nlimit 2", 7), ("house h\ntask main\nlimit", 3), ("house h\ntask main\nhandler u tick 1 shut t\nlimit 5", 3), ("house h\n\ntask main", 2), ("house h\ntask  main", 2)):
            self.refuses(desk, InvalidText, {"line": line}, row)
        for rows in ([], ["put\nfunction f c\n"]):
            empty = Desk()
            empty.play(rows)
            for row in ("house h", "house h\ntask main", "house h\n", "house h\ntask f"):
                self.refuses(empty, InvalidText, {"line": 1}, row)

    def test_undo(self):
        desk = desk_with(HOUSE, "leave h", "put\nfunction f\n")
        self.is_same([desk.say("undo") for _ in range(2)], ["ok", "ok"])
        self.is_same(desk.say("state h"), "kept")
        self.is_same([desk.say("undo") for _ in range(2)], ["ok", "ok"])
        self.refuses(desk, NothingToUndo, {}, "undo")
        self.refuses(Desk(), NothingToUndo, {}, "undo")

    def test_forms(self):
        desk = desk_with()
        self.is_same(desk.say("form each"), "form c\nnow 1 a\nend 0 returns c\nc 1 a")
        self.is_same(desk.say("form main"), "form\nnow 3 a + 3 b\nend 0")
        for name in ("main", "each", "tick"):
            self.assertEqual(form_text(read_form(desk.say(f"form {name}") + "\n")), desk.say(f"form {name}") + "\n")
        self.refuses(desk, UnknownFunction, {"name": "none"}, "form none")
        self.refuses(Desk(), UnknownFunction, {"name": "main"}, "form main")

    def test_deeper(self):
        desk = desk_with("put\nfunction more\n  take 3 a\n  take 3 b\nfunction way d\n  do d\n", "put\nfunction same c\n  take 1 a\n  do c\n")
        for row, wanted in (("deeper main tick", "yes"), ("deeper tick main", "no"), ("deeper main main", "no"), ("deeper more main", "no"), ("deeper main more", "no"), ("deeper each same", "no")):
            self.is_same(desk.say(row), wanted)
        self.refuses(desk, UnknownFunction, {"name": "none"}, "deeper none main")
        self.refuses(desk, UnknownFunction, {"name": "none"}, "deeper none x")
        self.refuses(desk, UnknownFunction, {"name": "x"}, "deeper main x")
        bench = Bench()
        bench.put(Program([("way", ("d",), (("do", "d"),)), ("each", ("c",), (("take", 1, "a"), ("do", "c")))]).functions())
        for row, other in (("deeper each way", bench.form("way")), ("deeper way each", bench.form("each"))):
            with self.assertRaises(InvalidForm) as caught:
                desk.say(row)
            self.assertEqual((caught.exception.problem, caught.exception.value), ("callbacks", other))

    def test_no_rows(self):
        desk = desk_with(HOUSE)
        for value in (*ODD_VALUES, *odd_values(), b"undo", ["undo"]):
            with self.assertRaises(InvalidRow) as caught:
                desk.say(value)
            self.assertIs(caught.exception.value, value)
        for row in (
            "", " ", "\n", "undo ", " undo", "undo h", "undo\n", "undo\nundo", "Undo", "redo", "put ", "put f", " put\nfunction f\n", "put f\nfunction f\n", "puts\n", "function f\n", "drop", "drop ", "drop  f",
            "drop f ", "drop f\n", "drop f,g", "drop F", "drop f  g", "drop f1", "drop\nf", "leave", "leave h k", "leave H", "leave h\n", "form", "form main tick", "form  main", "form main ", "form main\n", "form end",
            "lines", "lines h h", "lines\th", "lines h\n", "state", "state h main", "state 1", "state h\n", "deeper", "deeper main", "deeper main tick each", "deeper main  tick", "deeper main\ntick", "deeper main tick\n",
            "house", "house ", "house\ntask main", "house h k\ntask main", "house  h\ntask main", "house h \ntask main", " house h\ntask main", "house end\ntask main", "task main", "limit 5", "take 1 a",
        ):
            self.refuses(desk, InvalidRow, {"value": row}, row)
        for name in NO_NAMES:
            if isinstance(name, str):
                for word in ("form", "lines", "state", "leave", "deeper main", *(() if name == "a b" else ("drop", "drop main"))):
                    self.refuses(desk, InvalidRow, {"value": f"{word} {name}"}, f"{word} {name}")
                if "\n" not in name:
                    self.refuses(desk, InvalidRow, {"value": f"house {name}\ntask main"}, f"house {name}\ntask main")


class Plays(DeskCase):
    ROWS = ["put\n" + FUNCTIONS, HOUSE, "state h", "lines h", "form each", "put\nfunction tick\n  take 9 b\n", "state h", "undo", "leave h", "deeper main tick", "drop main", "undo"]

    def test_one_by_one(self):
        one, other, third = Desk(), Desk(), Desk()
        answers = [one.say(row) for row in self.ROWS]
        self.is_same(other.play(self.ROWS), answers)
        self.is_same(third.play(rows=tuple(self.ROWS[:5])) + third.play(self.ROWS[5:]), answers)
        self.assertEqual(self.told(one), self.told(other))
        self.is_same(other.play([]), [])
        self.assertIsNot(other.play([]), other.play([]))

    def test_a_play_with_a_refused_row(self):
        for wrong, error in (("state x", UnknownName), ("nothing", InvalidRow), (None, InvalidRow), ("put\nfunction\n", InvalidText), ("put\nfunction f\n  do c\n", InvalidProgram), ("form none", UnknownFunction)):
            for at in range(len(self.ROWS) - 1):
                desk = desk_with(HOUSE, "put\nfunction more\n", "undo")
                before = self.told(desk)
                with self.assertRaises(error):
                    desk.play([*self.ROWS[1:at + 1], wrong, *self.ROWS[at + 1:]])
                self.assertEqual(self.told(desk), before)
        desk = Desk()
        self.assertRaises(NothingToUndo, desk.play, [*self.ROWS, "undo", "undo", "undo", "undo", "undo"])
        self.assertRaises(NothingToUndo, desk.say, "undo")

    def test_rows_that_are_no_list(self):
        desk = desk_with(HOUSE)
        for value in (*ODD_VALUES, *odd_values(), "undo"):
            if not isinstance(value, (list, tuple)):
                with self.assertRaises(InvalidRow) as caught:
                    desk.play(value)
                self.assertIs(caught.exception.value, value)
        self.is_same(desk.say("state h"), "kept")

    def test_desks_share_nothing(self):
        one, other = Desk(), Desk()
        one.play(self.ROWS[:2])
        self.assertRaises(UnknownName, other.say, "state h")
        self.is_same(one.say("state h"), "kept")

    def test_some_deeds(self):
        """A desk answers as its bench does."""
        chance = random.Random(95)
        words = {}
        for _ in range(40):
            desk, bench = Desk(), Bench()
            for _ in range(20):
                word, args, named = some_deed(chance, bench)
                row = self.row_of(bench, word, args, named)
                if row is None:
                    continue
                try:
                    news = getattr(bench, word)(*args, **named)
                except ERRORS as error:
                    with self.assertRaises(type(error)) as caught:
                        desk.say(row)
                    self.assertEqual(told_error(caught.exception), told_error(error))
                    continue
                words[word] = words.get(word, 0) + 1
                wanted = "ok" if news is None else " ; ".join(" ".join([name, *names]) for name, names in zip(("computed", "changed", "entries"), news))
                self.is_same(desk.say(row), wanted)
                self.compare(desk, bench)
        self.assertGreater(min(words[word] for word in ("put", "drop", "set_entry", "drop_entry", "undo")), 4, words)

    def row_of(self, bench, word, args, named):
        if word == "put":
            rows = sorted(args[0])
            shell = [(name, params, body) for name, params, body in rows]
            return "put\n" + "".join(self.function_text(row) for row in shell)
        if word == "set_entry":
            sizes = named.get("sizes")
            if sizes is not None and not set(bench.current().frames()) <= set(sizes):
                return None
            return entry_text(args[0], (args[1], sizes if bench.current().frames() else None, named.get("limit")))[:-1]
        return {"drop": "drop " + " ".join(args[0] if word == "drop" else ()), "drop_entry": f"leave {args[0] if args else ''}", "undo": "undo"}[word]

    def function_text(self, row):
        """The text of one function; whether it is one of a program is no matter of its text."""
        class Alone:
            def __iter__(self):
                return iter([row])

        return program_text(Alone())

    def compare(self, desk, bench):
        program = bench.current()
        names = [] if program is None else program.names()
        for name in names:
            self.is_same(desk.say(f"form {name}") + "\n", form_text(bench.form(name)))
            for other in names[:2]:
                if bench.form(name).callbacks == bench.form(other).callbacks:
                    self.is_same(desk.say(f"deeper {name} {other}"), "no" if never_deeper(bench.form(name), bench.form(other)) else "yes")
        for name in bench.names():
            lines = bench.lines(name)
            self.is_same(desk.say(f"lines {name}"), "endless" if lines is None else " ; ".join(line_text(line) for line in lines))
            self.is_same(desk.say(f"state {name}"), bench.state(name))


if __name__ == "__main__":
    unittest.main()
