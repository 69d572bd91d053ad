"""[19]: HISTORIES as texts."""

import random
import unittest

from heldthrough.errors import NoText, Wrong
from heldthrough.forms import is_book
from heldthrough.fractions import vector_of
from heldthrough.histories import is_history
from heldthrough.storetexts import read_history, show_history
from tests.makers import made_history
from tests.values import ANY_VALUES

FRAME = (("a", "b", "c"), (("a",), ("b",)), ("c",), "usual")
BOOK = (FRAME, (("<=", (1, 1, 0), 4),))


def stand(a, b, c):
    """Return a WHOLE STAND."""
    return vector_of((a, b, c))


HISTORY = (
    ("first", stand(0, 0, 5)), ("edit", 0, stand(3, 0, 6)), ("edit", 0, stand(0, 2, 3)), ("merge", 1, 2, 0), ("settle", 3, 1, stand(0, 0, 0)),
    ("pick", 4, 0, 2), ("revert", 5, 0, 2), ("edit", 6, ((-1, 2), (0, 1), (7, 3))), ("settle", 7, 0, stand(0, 0, 1)),
)
TEXT = """first c 5
edit 0 a 3, c 6
edit 0 b 2, c 3
merge 1 2 0
settle 3 1
pick 4 0 2
revert 5 0 2
edit 6 a -1/2, c 7/3
settle 7 0 c 1"""
NINES = "9" * 40


class Texts(unittest.TestCase):
    def no_text(self, text, line, book=BOOK):
        with self.assertRaises(NoText) as context:
            read_history(book, text)
        self.assertEqual(context.exception.line, line, repr(text[-80:]))
        self.assertIs(type(context.exception.line), int)

    def test_there_and_back(self):
        self.assertIs(is_history(BOOK, HISTORY), True)
        self.assertEqual(show_history(BOOK, HISTORY), TEXT)
        self.assertEqual(read_history(BOOK, TEXT), HISTORY)

    def test_noughts(self):
        history = (("first", stand(0, 0, 0)), ("edit", 0, stand(0, 0, 0)), ("settle", 0, 1, stand(0, 0, 0)))
        self.assertEqual(show_history(BOOK, history), "first\nedit 0\nsettle 0 1")
        for text in ("first\nedit 0\nsettle 0 1", "first  \n edit 0 \nsettle 0 1  ", "first a 0\nedit 0 b 0\nsettle 0 1 c 0, a 0"):
            self.assertEqual(read_history(BOOK, text), history)

    def test_by_chance(self):
        for seed in range(150):
            draw = random.Random(seed)
            book, history, _ = made_history(draw, draw.randint(1, 12))
            text = show_history(book, history)
            self.assertEqual(text.count("\n"), len(history) - 1)
            self.assertEqual(read_history(book, text), history)
            loose = text.replace(" ", "   ").replace("\n", "  \n\n  ").replace(",", " , ")
            self.assertEqual(read_history(book, "\n " + loose + " \n"), history)

    def test_blanks(self):
        loose = "\n  first   c   5 \n\n \nedit  0  c 6 ,a   3\n edit 0 b 2,c 3\n  merge  1 2   0  \n"
        self.assertEqual(read_history(BOOK, loose), HISTORY[:4])

    def test_no_deed(self):
        for text, line in (("", 1), (" ", 1), ("\n", 2), ("  \n \n\n", 4)):
            self.no_text(text, line)

    def test_lines_of_no_form(self):
        for line in (
            "and", "First", "edits 0", "edit", "edit a 1", "edit 0 a", "edit 0 a 1 b 1", "edit 0 a 1,", "edit 0 ,", "edit 0 d 1", "edit 0 a 2/4", "edit 0 a 1, a 1",
            "edit 00 a 1", "edit -0", "edit +0", "edit 01", "edit 0a 1", "edit 0, a 1", "edit 0 0", "edit 0 1", "edit 0/1", "edit -1", "edit 0x0", "edit\t0", "edit 0\ta 1",
            f"edit 0 a {NINES}9", "settle 0", "settle a 1", "settle 0 a 1", "settle 0 0 0", "settle 0 01", "merge", "merge 0", "merge 0 0", "merge 0 0 0 0", "merge 0 0 0 a 1",
            "merge 0 0 00", "merge 0 0 -1", "merge 0, 0, 0", "pick 0 0", "pick 0 0 0 0", "pick 0 0 x", "revert 0 0", "revert 0 0 0 0", "revert", "0 edit", "= 0",
            "merge 0 0 0000", "edit 0000", "edit 1000", "edit " + NINES, "edit \u0660", "first a",
        ):
            self.no_text("first c 5\n" + line, 1)
            self.no_text("first c 5\n\n \n" + line + "\nedit 0\nand", 3)
            self.no_text("\n" + line, 1)

    def test_what_is_no_history(self):
        for line in (
            "first", "first c 5", "edit 1", "edit 1 a 1", "edit 999", "edit 0 a 5", "edit 0 a 3, b 3/2", "settle 0 1", "settle 1 0", "settle 0 0 b 9", "merge 0 0 1",
            "merge 1 0 0", "merge 0 1 0", "pick 0 0 1", "pick 1 0 0", "revert 0 1 0",
        ):
            self.no_text("first c 5\n" + line, 1)
            self.no_text("first c 5\n\n" + line + "\nand\nedit 9", 2)
        for text in ("edit 0", "merge 0 0 0", "first a 5", "\nfirst b 5, c 1\nfirst", "settle 0 0", "pick 0 0 0"):
            self.no_text(text, 1 if text.startswith("\n") else 0)

    def test_elders_and_clashes(self):
        tree = "first\nedit 0 a 1\nedit 0 a 2\n"
        self.no_text(tree + "merge 1 2 1", 3)
        self.no_text(tree + "merge 1 2 0", 3)
        self.no_text(tree + "pick 1 0 2", 3)
        self.no_text(tree + "\nrevert 1 2 0\nand", 4)
        self.assertEqual(read_history(BOOK, tree + "merge 1 1 0")[3], ("merge", 1, 1, 0))
        self.no_text(tree + "merge 1 1 0", 3, ((*FRAME[:3], "strict"), ()))

    def test_first_bad_line(self):
        self.no_text("first\nedit 0 a 9\nand", 1)
        self.no_text("first\nand\nedit 0 a 9", 1)
        self.no_text("and\nfirst", 0)
        self.no_text("first\n\n\nedit 0\n\nedit 0 a 9\n\n", 5)

    def test_three_figures(self):
        lines = ["first"] + [f"edit {k}" for k in range(110)]
        history = read_history(BOOK, "\n".join(lines))
        self.assertEqual(history[110], ("edit", 109, stand(0, 0, 0)))
        self.assertEqual(show_history(BOOK, history).split("\n"), lines)
        for word in ("0109", "0100", "111", "999", "1000", "010"):
            self.no_text("\n".join(lines + ["edit " + word]), 111)
        self.assertEqual(len(read_history(BOOK, "\n".join(lines + ["merge 110 100 99"]))), 112)

    def test_four_figures(self):
        lines = ["first"] + ["edit 0"] * 1001
        self.assertEqual(read_history(BOOK, "\n".join(lines + ["edit 999"]))[-1], ("edit", 999, stand(0, 0, 0)))
        self.no_text("\n".join(lines + ["edit 1000"]), 1002)

    def test_many_lines(self):
        lines = ["first", "edit 0 c 1"] + [f"merge {k - 1} {k - 2} {max(k - 3, 0)}" for k in range(2, 250)]
        self.assertEqual(show_history(BOOK, read_history(BOOK, "\n".join(lines))).split("\n"), lines)
        self.no_text("\n".join(lines + ["merge 3 2 4"]), 250)

    def test_wrong(self):
        for thing in ANY_VALUES:
            for other in ANY_VALUES:
                place = 1 if is_book(thing) else 0
                if place == 1 and isinstance(other, str):
                    continue
                with self.assertRaises(Wrong) as context:
                    read_history(thing, other)
                self.assertEqual(context.exception.place, place)
        with self.assertRaises(Wrong) as context:
            read_history(None, "and")
        self.assertEqual(context.exception.place, 0)


if __name__ == "__main__":
    unittest.main()
