"""[13]: FRACTIONS and VECTORS."""

import random
import unittest
from fractions import Fraction

from heldthrough.errors import NoText, Wrong
from heldthrough.forms import is_fraction, is_vector
from heldthrough.fractions import (added, floor_of, fraction, is_at_most, is_less, less, minus, multiple, nought, over, plus,
                                   read_fraction, show_fraction, sign_of, times, vector_of, whole)
from tests.values import ANY_VALUES, FRAME

NUMBERS = [
    (0, 1), (1, 1), (-1, 1), (2, 1), (-2, 1), (1, 2), (-1, 2), (3, 2), (-3, 2), (2, 3), (-7, 3), (5, 6), (-5, 6),
    (123456789, 1), (-987654321, 2), (999999999999, 1000000007), (10 ** 39 + 1, 10 ** 39), (-(10 ** 40) + 1, 7), (1, 10 ** 40 - 1),
]


def told(one):
    """Return the same number as Python's own Fraction."""
    return Fraction(one[0], one[1])


class Reckoning(unittest.TestCase):
    def right(self, found, number):
        self.assertIs(is_fraction(found), True)
        self.assertEqual(told(found), number)

    def test_fraction(self):
        for num, den, found in (
            (6, -4, (-3, 2)), (-6, -4, (3, 2)), (0, 5, (0, 1)), (0, -5, (0, 1)), (-8, 4, (-2, 1)), (8, -4, (-2, 1)), (3, 1, (3, 1)),
            (3, -1, (-3, 1)), (7, 9, (7, 9)), (123456789 * 6, 123456789 * 4, (3, 2)), (-(10 ** 40), 10 ** 39, (-10, 1)),
        ):
            self.assertEqual(fraction(num, den), found)

    def test_fraction_of_all_small(self):
        for num in range(-12, 13):
            for den in [*range(-12, 0), *range(1, 13)]:
                self.right(fraction(num, den), Fraction(num, den))

    def test_whole(self):
        for integer in (0, 1, -1, 12, -(10 ** 45)):
            self.assertEqual(whole(integer), (integer, 1))

    def test_of_two(self):
        for one in NUMBERS:
            for other in NUMBERS:
                self.right(plus(one, other), told(one) + told(other))
                self.right(minus(one, other), told(one) - told(other))
                self.right(times(one, other), told(one) * told(other))
                if other != (0, 1):
                    self.right(over(one, other), told(one) / told(other))
                self.assertIs(is_less(one, other), told(one) < told(other))
                self.assertIs(is_at_most(one, other), told(one) <= told(other))

    def test_undone(self):
        for one in NUMBERS:
            for other in NUMBERS:
                self.assertEqual(minus(plus(one, other), other), one)
                self.assertEqual(plus(minus(one, other), other), one)
                if other != (0, 1):
                    self.assertEqual(over(times(one, other), other), one)
                    self.assertEqual(times(over(one, other), other), one)

    def test_of_one(self):
        for one in NUMBERS:
            self.assertEqual(sign_of(one), (told(one) > 0) - (told(one) < 0))
            self.assertIs(type(sign_of(one)), int)
            self.assertEqual(floor_of(one), told(one).__floor__())

    def test_floor_below_nought(self):
        for one, found in (((-3, 2), -2), ((-1, 3), -1), ((-4, 1), -4), ((0, 1), 0), ((1, 3), 0), ((7, 2), 3), ((-(10 ** 12) - 1, 10 ** 12), -2)):
            self.assertEqual(floor_of(one), found)


class Vectors(unittest.TestCase):
    def test_nought(self):
        self.assertEqual(nought(FRAME), ((0, 1), (0, 1), (0, 1)))
        self.assertEqual(nought((("a",), (), ("a",), "usual")), ((0, 1),))

    def test_vector_of(self):
        self.assertEqual(vector_of((3, 0, -2)), ((3, 1), (0, 1), (-2, 1)))
        self.assertEqual(vector_of(()), ())

    def test_cell_by_cell(self):
        draw = random.Random(13)
        for _ in range(200):
            one, other = [tuple(draw.choice(NUMBERS) for _ in range(3)) for _ in range(2)]
            share = draw.choice(NUMBERS)
            for found, numbers in (
                (added(one, other), [told(a) + told(b) for a, b in zip(one, other)]),
                (less(one, other), [told(a) - told(b) for a, b in zip(one, other)]),
                (multiple(share, one), [told(share) * told(a) for a in one]),
            ):
                self.assertIs(is_vector(FRAME, found), True)
                self.assertEqual([told(number) for number in found], numbers)
            self.assertEqual(less(added(one, other), other), one)
            self.assertEqual(multiple((-1, 1), multiple((-1, 1), one)), one)


class Texts(unittest.TestCase):
    def test_shown(self):
        for one, text in (((0, 1), "0"), ((3, 1), "3"), ((-3, 1), "-3"), ((-3, 4), "-3/4"), ((1, 2), "1/2"), ((123456789012, 5), "123456789012/5")):
            self.assertEqual(show_fraction(one), text)

    def test_there_and_back(self):
        for one in NUMBERS:
            self.assertEqual(read_fraction(show_fraction(one)), one)

    def test_show_long_ones(self):
        """Python itself shows no more than some thousand figures at once."""
        draw = random.Random(3)
        for size in (3000, 3011, 4300, 9999, 20000):
            figures = "7" + "".join(draw.choice("0000123456789") for _ in range(size - 1))
            number = 0
            for begin in range(0, size, 500):
                number = number * 10 ** len(figures[begin:begin + 500]) + int(figures[begin:begin + 500])
            self.assertEqual(show_fraction((number, 1)), figures)
            self.assertEqual(show_fraction((-number, 1)), "-" + figures)
            self.assertEqual(show_fraction((-1, number)), "-1/" + figures)
            self.assertEqual(show_fraction((10 ** (size - 1), 1)), "1" + "0" * (size - 1))

    def test_forty_figures(self):
        nines, more = "9" * 40, "9" * 41
        self.assertEqual(read_fraction(nines), (10 ** 40 - 1, 1))
        self.assertEqual(read_fraction("-" + nines), (1 - 10 ** 40, 1))
        self.assertEqual(read_fraction(nines + "/1" + "0" * 39), (10 ** 40 - 1, 10 ** 39))
        self.assertEqual(read_fraction("-1/" + nines), (-1, 10 ** 40 - 1))
        for text in (more, "-" + more, "1/" + more, more + "/2", "-" + more + "/2", "1/1" + "0" * 40, "9" * 4000, "-" + "9" * 3999):
            self.no_text(text)

    def no_text(self, text):
        with self.assertRaises(NoText) as context:
            read_fraction(text)
        self.assertEqual(context.exception.line, 0)
        self.assertIs(type(context.exception.line), int)

    def test_no_texts(self):
        for text in (
            "", " ", "-", "/", "+1", "+0", "-0", "00", "01", "-01", "007", "1 ", " 1", "1\n", "\n1", "1 /2", "1/ 2", "1/2 ", " 1/2", "- 1", "--1",
            "1/", "/2", "-/2", "1/-2", "-1/-2", "1/+2", "1/0", "0/0", "0/1", "1/1", "-3/1", "3/01", "1/02", "01/2", "2/4", "-2/4", "0/2", "-0/2",
            "3/3", "6/3", "1/2/3", "1//2", "1.5", "1e3", "1_000", "a", "1a", "0x1", "None", "(1, 2)", "1,2", "1/2\n", "\u0661", "\u00b2", "1/\u0662",
        ):
            self.no_text(text)

    def test_no_strings(self):
        for thing in [*ANY_VALUES, b"1", 1.5]:
            if isinstance(thing, str):
                continue
            with self.assertRaises(Wrong) as context:
                read_fraction(thing)
            self.assertEqual(context.exception.place, 0)

    def test_all_short_texts(self):
        """Of all texts of up to four of these signs just those are read that are shown."""
        shown = {show_fraction(fraction(num, den)) for num in range(-999, 1000) for den in range(1, 100)}
        shown |= {str(num) for num in range(-999, 10000)} | {f"1/{den}" for den in range(2, 100)}
        signs = "-/012 "
        texts = [""]
        for _ in range(4):
            texts = texts + [text + sign for text in texts if len(text) == len(texts[-1]) for sign in signs]
        for text in texts:
            if text in shown:
                self.assertEqual(show_fraction(read_fraction(text)), text)
            else:
                self.no_text(text)


if __name__ == "__main__":
    unittest.main()
