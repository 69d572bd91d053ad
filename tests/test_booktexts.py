"""[16]: BOOKS and VECTORS as texts."""

import random
import unittest

from heldthrough.booktexts import read_book, read_vector, show_book, show_vector
from heldthrough.errors import NoText, Wrong
from heldthrough.forms import is_book, is_frame, is_vector
from tests.makers import made_book, made_frame, made_stand
from tests.values import ANY_VALUES

HEAD = "sheet usual\ncells a b c d\n"
FRAME = (("a", "b", "c", "d"), (("a", "c"), ("b",)), ("d",), "usual")
TEXT = HEAD + "group a c\ngroup b\nadded d\nrule 1 a -2 d <= 3\nrule = 0\nrule 1 b = -4"
BOOK = (FRAME, (("<=", (1, 0, 0, -2), 3), ("=", (0, 0, 0, 0), 0), ("=", (0, 1, 0, 0), -4)))
NINES = "9" * 40


class Books(unittest.TestCase):
    def no_text(self, text, line):
        with self.assertRaises(NoText) as context:
            read_book(text)
        self.assertEqual(context.exception.line, line, repr(text))
        self.assertIs(type(context.exception.line), int)

    def test_shown(self):
        self.assertEqual(show_book(BOOK), TEXT)
        self.assertEqual(show_book(((("x",), (("x",),), (), "strict"), ())), "sheet strict\ncells x\ngroup x")
        self.assertEqual(show_book(((("x",), (), ("x",), "usual"), (("<=", (-1,), 0),))), "sheet usual\ncells x\nadded x\nrule -1 x <= 0")

    def test_read(self):
        self.assertEqual(read_book(TEXT), BOOK)
        self.assertEqual(read_book("sheet strict\ncells x\nadded x"), ((("x",), (), ("x",), "strict"), ()))

    def test_there_and_back(self):
        for seed in range(300):
            draw = random.Random(seed)
            frame = made_frame(draw, draw.randint(1, 8))
            book = made_book(draw, frame, made_stand(draw, frame))
            self.assertEqual(read_book(show_book(book)), book)
            self.assertEqual(show_book(read_book(show_book(book))), show_book(book))

    def test_words_as_names(self):
        frame = (("rule", "group", "added", "sheet", "cells"), (("rule", "cells"), ("group",)), ("added", "sheet"), "usual")
        book = (frame, (("<=", (1, 2, 3, 4, 5), 6),))
        self.assertEqual(read_book(show_book(book)), book)

    def test_blanks(self):
        loose = "\n \n  sheet   usual  \n\n cells a  b c   d\n   \ngroup  a c \n group b\n  added   d\n\n\n rule  1 a   -2  d  <=   3\nrule = 0 \nrule 1 b = -4\n\n "
        self.assertEqual(read_book(loose), BOOK)

    def test_order(self):
        for lines in (
            ["added d", "group b", "group c a"], ["group c a", "added d", "group b"], ["group b", "group a c", "added d"],
        ):
            self.assertEqual(read_book(HEAD + "\n".join(lines)), (FRAME, ()))
        self.assertEqual(read_book(HEAD + "added d b\ngroup c a")[0], (FRAME[0], (("a", "c"),), ("b", "d"), "usual"))
        self.assertEqual(read_book(HEAD + "group d\ngroup c\ngroup b\ngroup a")[0][1], (("a",), ("b",), ("c",), ("d",)))

    def test_rules(self):
        head = HEAD + "group a b c d\n"
        for line, rule in (
            ("rule = 0", ("=", (0, 0, 0, 0), 0)), ("rule 0 a <= 1", ("<=", (0, 0, 0, 0), 1)), ("rule 2 d 1 a = -3", ("=", (1, 0, 0, 2), -3)),
            ("rule 4 d 0 c 3 b -1 a <= 7", ("<=", (-1, 3, 0, 4), 7)), (f"rule {NINES} a -{NINES} b = {NINES}",
            ("=", (int(NINES), -int(NINES), 0, 0), int(NINES))), (f"rule 1 a <= -{NINES}", ("<=", (1, 0, 0, 0), -int(NINES))),
        ):
            self.assertEqual(read_book(head + line), (read_book(head)[0], (rule,)))

    def test_bad_rules(self):
        head = HEAD + "group a b c d\n"
        for line in (
            "rule", "rule =", "rule 0", "rule = 0 0", "rule = = 0", "rule < 0", "rule >= 0", "rule == 0", "rule 1 = 0", "rule a = 0", "rule a 1 = 0",
            "rule 1 a 2 = 0", "rule 1 a b = 0", "rule 1 e = 0", "rule 1 A = 0", "rule 1 a 1 a = 0", "rule 1 a 2 b 0 a = 0", "rule 1a = 0",
            "rule + 1 a = 0", "rule +1 a = 0", "rule -0 a = 0", "rule 01 a = 0", "rule 1/2 a = 0", "rule 1 a = 1/2", "rule 1 a = +1",
            "rule 1 a = -0", "rule 1 a = 00", "rule 1 a = a", "rule 1 a 0 =", "rule 1 a <=3", "rule 1 a<= 3", "rule 1 a < = 3", "Rule = 0", "rules = 0",
            f"rule {NINES}9 a = 0", f"rule 1 a = {NINES}9", f"rule 1 a = -{NINES}9", "rule 1 a = 0 rule", "rule 1\ta = 0", "group a", "added a",
            "sheet usual", "cells a b c d", "= 0", "1 a = 0", "group", "added", "group e",
        ):
            self.no_text(head + line, 3)
            self.no_text(head + "rule 1 a = 1\n\n" + line + "\nrule = 0", 5)
            self.no_text(head + line + "\nand", 3)

    def test_bad_first_line(self):
        for line in ("sheet", "sheet Usual", "sheet usual usual", "usual", "usual sheet", "Sheet usual", "sheets usual", "cells a", "sheet\tusual", "sheet strictly"):
            self.no_text(line + "\ncells a\ngroup a", 0)
            self.no_text("\n  \n" + line, 2)

    def test_bad_second_line(self):
        for line in ("cells", "cells A", "cells a a", "cells a b a", "cells a1", "cells a,b", "cell a", "sheet usual", "group a", "a b", "cells abcdefghijklm", "cells a -", "Cells a"):
            self.no_text("sheet usual\n" + line + "\ngroup a", 1)
            self.no_text("\nsheet usual\n\n" + line, 3)

    def test_bad_parts(self):
        for line in (
            "group", "added", "group e", "group a a", "added b b", "group a e", "groups a", "Group a", "a b", "cells a b c d", "sheet usual", "rule = 0",
            "rule 1 a = 0", "group a,b", "added A", "rule", "group abcdefghijklm",
        ):
            self.no_text(HEAD + line + "\ngroup a b c d", 2)
            self.no_text(HEAD + "\n" + line, 3)
        for lines in (
            ["group a", "group a"], ["group a b", "group c a"], ["added a", "group a"], ["group a", "added b a"], ["added a", "added b"],
            ["added a b", "group a c d"], ["group a b c", "rule 1 a <= 3"], ["added a", "added b c d"],
        ):
            self.no_text(HEAD + "\n".join(lines), 3)
            self.no_text(HEAD + " \n" + "\n \n".join(lines) + "\n", 5)

    def test_what_lacks(self):
        for text, line in (
            ("", 1), (" ", 1), ("\n", 2), ("\n\n  \n", 4), ("sheet usual", 1), ("sheet usual\n", 2), ("sheet usual\ncells a", 2), ("\n\nsheet strict\n\ncells a b\n", 6),
            (HEAD[:-1], 2), (HEAD, 3), (HEAD + "group a b c", 3), (HEAD + "group a b c\n", 4), (HEAD + "added a\n\ngroup b c\n\n", 7),
        ):
            self.no_text(text, line)

    def test_the_first_bad_line(self):
        self.no_text("shet usual\ncells a a\ngroup b", 0)
        self.no_text("sheet usual\ncells a a\ngroup b", 1)
        self.no_text("sheet usual\ncells a\ngroup b\nrule", 2)
        self.no_text("sheet usual\ncells a\ngroup a\nrule\nrule", 3)
        self.no_text("sheet usual\ncells a\n\ngroup a\nrule = 0\nrule = 0\nrule = 0 0\n", 6)

    def test_no_strings(self):
        for thing in [*ANY_VALUES, b"sheet usual"]:
            if not isinstance(thing, str):
                with self.assertRaises(Wrong) as context:
                    read_book(thing)
                self.assertEqual(context.exception.place, 0)

    def test_any_lines(self):
        """What is read of lines put together by chance is a BOOK, and is shown and read again as this."""
        read = 0
        for seed in range(3000):
            draw = random.Random(seed)
            parts = ["group a", "group b", "group b a", "added a", "added b", "rule 1 a <= 2", "rule -1 b 0 a = 0", "", " ", "rule = 0 0", "group"]
            text = "sheet usual\ncells a b\n" + "\n".join(draw.choice(parts) for _ in range(draw.randint(1, 4)))
            try:
                book = read_book(text)
            except NoText as error:
                # Up to the bad line all is right: if it is cut off, nothing else is told but what lacks.
                self.assertLessEqual(error.line, text.count("\n") + 1)
                ahead = "\n".join(text.split("\n")[:error.line])
                try:
                    self.assertIs(is_book(read_book(ahead)), True)
                except NoText as second:
                    self.assertEqual(second.line, error.line)
                continue
            read += 1
            self.assertIs(is_book(book), True)
            self.assertEqual(read_book(show_book(book)), book)
        self.assertGreater(read, 100)


class Vectors(unittest.TestCase):
    def no_text(self, text, index):
        with self.assertRaises(NoText) as context:
            read_vector(FRAME, text)
        self.assertEqual(context.exception.line, index, repr(text))
        self.assertIs(type(context.exception.line), int)

    def test_shown(self):
        for vector, text in (
            (((0, 1),) * 4, ""), (((1, 1), (0, 1), (0, 1), (0, 1)), "a 1"), (((-1, 2), (0, 1), (7, 3), (-4, 1)), "a -1/2, c 7/3, d -4"),
        ):
            self.assertEqual(show_vector(FRAME, vector), text)
            self.assertEqual(read_vector(FRAME, text), vector)

    def test_there_and_back(self):
        for seed in range(300):
            draw = random.Random(seed)
            frame = made_frame(draw)
            vector = made_stand(draw, frame)
            self.assertEqual(read_vector(frame, show_vector(frame, vector)), vector)

    def test_loose(self):
        for text, vector in (
            (" ", ((0, 1),) * 4), ("    ", ((0, 1),) * 4), ("a 0", ((0, 1),) * 4), ("d 4,a 1", ((1, 1), (0, 1), (0, 1), (4, 1))),
            ("  c   1/2 ,  b  -3  ", ((0, 1), (-3, 1), (1, 2), (0, 1))), ("b 2 ,a 1", ((1, 1), (2, 1), (0, 1), (0, 1))),
            (f"a {NINES}, b -1/{NINES}", ((int(NINES), 1), (-1, int(NINES)), (0, 1), (0, 1))),
        ):
            self.assertEqual(read_vector(FRAME, text), vector)
            self.assertIs(is_vector(FRAME, read_vector(FRAME, text)), True)

    def test_bad_items(self):
        for item in (
            "", " ", "a", "1", "1 a", "a1", "a 1 b", "a 1 1", "a 1 b 2", "e 1", "A 1", "a +1", "a -0", "a 01", "a 2/4", "a 1/1", "a 1 /2", "a 1/ 2",
            "a 1/-2", "a 1/0", "a b", "aa 1", "a\n1", "a 1\n", "\n", "a: 1", "a 1.5", f"a {NINES}9", f"a 1/{NINES}9", "a\t1", "- a 1", "a - 1",
        ):
            if item.strip(" "):
                self.no_text(item, 0)
            self.no_text("b 1," + item, 1)
            self.no_text("b 1, d 2 ," + item + ",c 1", 2)
            self.no_text(item + ", a 1, e 5", 0)

    def test_cells_twice(self):
        self.no_text("a 1, a 1", 1)
        self.no_text("a 1, b 1, c 1, b 0", 3)
        self.no_text("a 0, a 1, e 1", 1)

    def test_commas(self):
        self.no_text(",", 0)
        self.no_text("a 1,", 1)
        self.no_text(",a 1", 0)
        self.no_text("a 1,,b 1", 1)
        self.no_text(" , ", 0)

    def test_wrong(self):
        for thing in ANY_VALUES:
            for other in ANY_VALUES:
                place = 0 if not is_frame(thing) else 1
                if place == 1 and isinstance(other, str):
                    continue
                with self.assertRaises(Wrong) as context:
                    read_vector(thing, other)
                self.assertEqual(context.exception.place, place)

    def test_wrong_ahead_of_no_text(self):
        with self.assertRaises(Wrong) as context:
            read_vector(list(FRAME), "a a a")
        self.assertEqual(context.exception.place, 0)


if __name__ == "__main__":
    unittest.main()
