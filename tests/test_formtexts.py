import random
import unittest

from nestdeep.bodies import body_form
from nestdeep.errors import InvalidForm, InvalidText
from nestdeep.forms import Form
from nestdeep.formtexts import form_text, read_form
from tests.helpers import BIG, ODD_VALUES, Case
from tests.reached import some_body

G, H = ("g", ()), ("g", ("c", "t"))
FULL = (
    "form c d g() g(c,t)\nendless g()\nendless c d\nnow 0\n"
    f"now 2 a + {BIG} b shut u v returns c\nend 3 a returns c g(c,t)\nc 0\nd 0\ng() 0\ng(c,t) 0 returns d\ng(c,t) 1 b shut u v returns c\n")


class Written(Case):
    def test_each_part(self):
        terms = (
            ((), (), "now", ()), ((("a", 2), ("b", BIG)), ("u", "v"), "now", ("c",)), ((("a", 3),), (), "end", ("c", H)), ((), (), "c", ()),
            ((), (), "d", ()), ((), (), G, ()), ((), (), H, ("d",)), ((("b", 1),), ("u", "v"), H, ("c",)))
        form = Form(("c", "d", G, H), ((G,), ("c", "d")), terms)
        self.gives(FULL, form_text, form)
        self.assertEqual(read_form(FULL), form)
        self.is_same(read_form(text=FULL).terms, terms)
        self.is_same(form_text(form=form), FULL)

    def test_small_ones(self):
        for text in ("form\nendless\n", "form\nnow 0\n", "form c\nendless\n", "form g(x,y) h()\nnow 0\ng(x,y) 0\nh() 0\n", "form x\nendless x\nnow 0\nx 0\n"):
            self.is_same(form_text(read_form(text)), text)

    def test_read_back(self):
        chance = random.Random(4)
        for _ in range(300):
            form = body_form(some_body(chance))
            self.assertEqual(read_form(form_text(form)), form)


class Spoilt(Case):
    def wrong(self, text, number, cause=None):
        raised = self.fails(InvalidText, {"line": number}, read_form, text)
        self.assertIs(type(raised.__cause__), cause if cause else type(None), text)

    def test_no_strings_and_the_empty_one(self):
        for value in ODD_VALUES:
            if not isinstance(value, str):
                with self.assertRaises(InvalidText) as caught:
                    read_form(value)
                self.is_same(caught.exception.line, 0)
        self.wrong("", 0)

    def test_first_lines(self):
        for text in (
            "form", "\n", "form \n", " form\n", "form  c\n", "formc\n", "form d c\n", "form c c\n", "form g() c\n", "form a b c d e f g h i\n",
            "form now\n", "form g(\n", "form g)\n", "form g(x,)\n", "form g(x,y,z)\n", "form g(x y)\n", "form g()()\n", "form g(())\n", "form (x)\n",
            "form C\n", "end\n", "form c ", "form c", "form\tc\n", "now 0\n", "function f\n", "form c,d\n", "form g(x,y) g()\n", "form g((x))\n",
        ):
            self.wrong(text, 1)
            self.wrong(text + ("\n" if "\n" not in text else "") + "now 0\n", 1) if text not in ("form", "form c") else None

    def test_further_lines(self):
        rows = FULL.split("\n")[:-1]
        bad = (
            "", " ", "now", "now ", "now 0 ", " now 0", "now  0", "now 1 a  + 1 b", "now 1 b + 1 a", "now 0 a", "now 01 a", "now a", "now 1 a+1 b", "x 0", "now 1 a shut",
            "now 1 a shut v u", "now 1 a shut u u", "now 1 a returns", "now 1 a returns d c", "now 1 a returns x", "now 1 a returns c shut u", "now 1 a returns g",
            "now 1 a shut u shut v", "now 0 returns c returns d", "endless d c", "endless x", "endless  c", "endless c ", "endlessc", "endless c c", "g 0", "g(c) 0",
            "g(t,c) 0", "g( ) 0", "later 0", "now 1 a shut now", "form c", "now 1 A", "now -1 a", "now 1 a + ", "now 0 + 1 a", "endless g() c", "now returns c", "NOW 0",
        )
        for at in range(1, len(rows) + 1):
            for row in bad:
                spoilt = [*rows[:at], row, *rows[at:]]
                self.wrong("".join(f"{one}\n" for one in spoilt), at + 1)

    def test_a_line_without_its_line_feed(self):
        self.wrong(FULL[:-1], FULL.count("\n"))
        self.wrong("form\nnow 0", 2)
        self.wrong(FULL + "x", FULL.count("\n") + 1)
        self.wrong(FULL + "now 0", FULL.count("\n") + 1)
        self.wrong(FULL + "\n", FULL.count("\n") + 1)
        self.wrong("form\nlater\nnow 0", 2)

    def test_one_line_left_out_or_twice_or_moved(self):
        rows = FULL.split("\n")[:-1]
        for at in range(1, len(rows)):
            self.wrong("".join(f"{one}\n" for one in [*rows[:at], rows[at], *rows[at:]]), 0, InvalidForm)
        for at in (3, 6, 7, 8):
            text = "".join(f"{one}\n" for one in [*rows[:at], *rows[at + 1:]])
            self.wrong(text, 0, InvalidForm)
        for at in range(1, len(rows) - 1):
            text = "".join(f"{one}\n" for one in [*rows[:at], rows[at + 1], rows[at], *rows[at + 2:]])
            # An endless set behind a term makes a form, but not its text.
            self.wrong(text, 0, None if at == 2 else InvalidForm)

    def test_no_forms(self):
        self.wrong("form\n", 0, InvalidForm)
        self.wrong("form\nend 0\n", 0, InvalidForm)
        self.wrong("form\nendless\nnow 0\n", 0, InvalidForm)
        self.wrong("form\nnow 1 a\nnow 2 a\n", 0, InvalidForm)
        self.wrong("form c\nnow 0\nend 0 returns c\n", 0, InvalidForm)
        self.wrong("form\nendless\nendless\n", 0, InvalidForm)
        self.wrong("form c\nnow 0\nc 0\nendless c\n", 0)


if __name__ == "__main__":
    unittest.main()
