"""[15]: BOOKS."""

import copy
import unittest

from heldthrough.books import broken, in_frame, is_good, keeps, scaled, value, with_rule, without_rule
from heldthrough.forms import is_book
from heldthrough.fractions import vector_of

FRAME = (("a", "b", "c"), (("a", "b"),), ("c",), "usual")
RULES = (("=", (1, 1, -1), 0), ("<=", (-1, 0, 0), 0), ("<=", (0, 2, 0), 3), ("=", (0, 0, 0), 0))
BOOK = (FRAME, RULES)
EMPTY = (FRAME, ())


class Values(unittest.TestCase):
    def test_value(self):
        for reading, vector, found in (
            ((1, 1, -1), ((1, 2), (1, 3), (5, 6)), (0, 1)),
            ((2, 0, 0), ((3, 4), (9, 1), (9, 1)), (3, 2)),
            ((0, 0, 0), ((3, 4), (9, 1), (9, 1)), (0, 1)),
            ((-3, 2, 5), ((1, 1), (-1, 2), (1, 7)), (-23, 7)),
            ((1, 1, 1), ((0, 1), (0, 1), (0, 1)), (0, 1)),
            ((10 ** 40, 0, 1), ((1, 3), (1, 2), (-1, 3)), ((10 ** 40 - 1) // 3, 1)),
            ((1, 1, 1), ((1, 2), (1, 4), (1, 4)), (1, 1)),
        ):
            self.assertEqual(value(reading, vector), found)

    def test_keeps_equal(self):
        rule = ("=", (1, 2, 0), 3)
        self.assertIs(keeps(rule, ((1, 1), (1, 1), (7, 1))), True)
        self.assertIs(keeps(rule, ((2, 1), (1, 2), (0, 1))), True)
        self.assertIs(keeps(rule, ((1, 1), (1, 2), (0, 1))), False)
        self.assertIs(keeps(rule, ((3, 1), (1, 1), (0, 1))), False)
        self.assertIs(keeps(rule, ((3, 1), (1, 10 ** 30), (0, 1))), False)

    def test_keeps_limit(self):
        rule = ("<=", (1, 2, 0), -3)
        self.assertIs(keeps(rule, ((-3, 1), (0, 1), (9, 1))), True)
        self.assertIs(keeps(rule, ((-4, 1), (0, 1), (9, 1))), True)
        self.assertIs(keeps(rule, ((-3, 1), (1, 10 ** 30), (9, 1))), False)
        self.assertIs(keeps(rule, ((0, 1), (0, 1), (0, 1))), False)
        self.assertIs(keeps(("<=", (0, 0, 0), 0), ((5, 1), (5, 1), (5, 1))), True)
        self.assertIs(keeps(("<=", (0, 0, 0), -1), ((5, 1), (5, 1), (5, 1))), False)

    def test_broken(self):
        for numbers, found in (
            ((1, 1, 2), ()), ((0, 0, 0), ()), ((-1, 1, 0), (1,)), ((-1, 1, 1), (0, 1)), ((0, 2, 2), (2,)), ((-1, 2, 0), (0, 1, 2)),
        ):
            stand = vector_of(numbers)
            self.assertEqual(broken(BOOK, stand), found)
            self.assertIs(is_good(BOOK, stand), found == ())

    def test_bounds_just_met(self):
        self.assertIs(is_good(BOOK, ((0, 1), (3, 2), (3, 2))), True)
        self.assertEqual(broken(BOOK, ((0, 1), (31, 20), (31, 20))), (2,))

    def test_no_rules(self):
        for numbers in ((0, 0, 0), (-9, 9, 10 ** 50)):
            self.assertIs(is_good(EMPTY, vector_of(numbers)), True)
            self.assertEqual(broken(EMPTY, vector_of(numbers)), ())


class Others(unittest.TestCase):
    def test_with_rule(self):
        rule = ("<=", (1, 0, 0), 9)
        self.assertEqual(with_rule(BOOK, rule), (FRAME, (*RULES, rule)))
        self.assertEqual(with_rule(EMPTY, rule), (FRAME, (rule,)))
        self.assertEqual(with_rule(with_rule(EMPTY, rule), rule), (FRAME, (rule, rule)))

    def test_without_rule(self):
        for index in range(len(RULES)):
            self.assertEqual(without_rule(BOOK, index), (FRAME, RULES[:index] + RULES[index + 1:]))
        self.assertEqual(without_rule(with_rule(EMPTY, RULES[1]), 0), EMPTY)

    def test_in_frame(self):
        frame = (("x", "y", "z"), (("x",), ("y",), ("z",)), (), "strict")
        self.assertEqual(in_frame(BOOK, frame), (frame, RULES))
        self.assertEqual(in_frame(in_frame(BOOK, frame), FRAME), BOOK)

    def test_scaled(self):
        self.assertEqual(scaled(BOOK, 1), BOOK)
        self.assertEqual(scaled(BOOK, 7), (FRAME, tuple((sign, reading, bound * 7) for sign, reading, bound in RULES)))
        self.assertEqual(scaled((FRAME, (("<=", (1, 0, 0), -3),)), 10 ** 30)[1][0][2], -3 * 10 ** 30)
        self.assertEqual(scaled(EMPTY, 5), EMPTY)

    def test_all_are_books(self):
        for book in (BOOK, EMPTY):
            self.assertIs(is_book(with_rule(book, RULES[0])), True)
            self.assertIs(is_book(scaled(book, 12)), True)
        self.assertIs(is_book(without_rule(BOOK, 3)), True)

    def test_nothing_is_changed(self):
        before = copy.deepcopy(BOOK)
        with_rule(BOOK, RULES[0])
        without_rule(BOOK, 0)
        scaled(BOOK, 3)
        in_frame(BOOK, (("x", "y", "z"), (), ("x", "y", "z"), "strict"))
        self.assertEqual(BOOK, before)


if __name__ == "__main__":
    unittest.main()
